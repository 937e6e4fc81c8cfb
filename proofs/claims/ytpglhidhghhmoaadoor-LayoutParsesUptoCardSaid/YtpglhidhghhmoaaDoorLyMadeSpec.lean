/- What the statements' lines of layer 2 are, over the numbers of a tape. No program is run here. -/
import Derived.Test.YtpglhidhghhmoaaDoorTapeV
import Derived.Test.YtpglhidhghhmoaaDoorLySpec
namespace Go.Proofs.YtpglhidhghhmoaaDoor
open Go Fl

abbrev mWords : List (List UInt8) := [wBlock, wLane, wStation, wDepot, wRobot, wConfig, [98, 108, 111, 99, 107, 115]]
abbrev mParts : List (List UInt8) := [[97], [98, 49], [99, 45, 100], [49], [48], [45, 55], [57, 57, 57, 57], [49, 48, 48, 48, 48], [48, 49], [120, 33]]
abbrev mNames : List Nat := [1, 2, 3, 3, 1, 0, 1]
abbrev mNums : List Nat := [2, 0, 1, 1, 1, 4, 1]
def mPart (p : Nat) : List UInt8 := mParts.getD p []
def mWord (w : Nat) : List UInt8 := mWords.getD w []
def mNameN (w : Nat) : Nat := mNames.getD w 0
def mNumN (w : Nat) : Nat := mNums.getD w 0
theorem mNameN_le (w : Nat) : mNameN w ≤ 3 := by
  unfold mNameN
  rcases Nat.lt_or_ge w 7 with h | h
  · obtain rfl | rfl | rfl | rfl | rfl | rfl | rfl : w = 0 ∨ w = 1 ∨ w = 2 ∨ w = 3 ∨ w = 4 ∨ w = 5 ∨ w = 6 := by omega
    all_goals decide
  · rw [List.getD_eq_getElem?_getD, List.getElem?_eq_none (by simpa using h)]; simp
theorem mNumN_le (w : Nat) : mNumN w ≤ 4 := by
  unfold mNumN
  rcases Nat.lt_or_ge w 7 with h | h
  · obtain rfl | rfl | rfl | rfl | rfl | rfl | rfl : w = 0 ∨ w = 1 ∨ w = 2 ∨ w = 3 ∨ w = 4 ∨ w = 5 ∨ w = 6 := by omega
    all_goals decide
  · rw [List.getD_eq_getElem?_getD, List.getElem?_eq_none (by simpa using h)]; simp
theorem mWord_len (w : Nat) : (mWord w).length ≤ 7 := by
  unfold mWord
  rcases Nat.lt_or_ge w 7 with h | h
  · obtain rfl | rfl | rfl | rfl | rfl | rfl | rfl : w = 0 ∨ w = 1 ∨ w = 2 ∨ w = 3 ∨ w = 4 ∨ w = 5 ∨ w = 6 := by omega
    all_goals decide
  · rw [List.getD_eq_getElem?_getD, List.getElem?_eq_none (by simpa using h)]; simp
theorem mPart_len (w : Nat) : (mPart w).length ≤ 7 := by
  unfold mPart
  rcases Nat.lt_or_ge w 10 with h | h
  · obtain rfl | rfl | rfl | rfl | rfl | rfl | rfl | rfl | rfl | rfl : w = 0 ∨ w = 1 ∨ w = 2 ∨ w = 3 ∨ w = 4 ∨ w = 5 ∨ w = 6 ∨ w = 7 ∨ w = 8 ∨ w = 9 := by omega
    all_goals decide
  · rw [List.getD_eq_getElem?_getD, List.getElem?_eq_none (by simpa using h)]; simp
/-- The names of a line, from the i-th on: the fields and the tape's place behind them. -/
def nameF (zs : List Int) (n : Nat) : Nat → Nat → Nat → List (List UInt8) → List (List UInt8) × Nat
  | 0, _, k, fs => (fs, k)
  | f + 1, i, k, fs => if i < n + tapeN zs k 8 / 7 then nameF zs n f (i + 1) (k + 2) (fs ++ [mPart (tapeN zs (k + 1) 3)]) else (fs, k + 1)
/-- m numbers of a line. -/
def numF (zs : List Int) : Nat → Nat → List (List UInt8) → List (List UInt8) × Nat
  | 0, k, fs => (fs, k)
  | m + 1, k, fs => numF zs m (k + 1) (fs ++ [mPart (3 + tapeN zs k 4)])
/-- The word of a line and the tape's place behind it. -/
def wordF (zs : List Int) (k : Nat) : Nat × Nat := if 0 < tapeN zs (k + 1) 4 then (tapeN zs (k + 2) 6, k + 3) else (tapeN zs k 7, k + 2)
/-- At one time in twelve a field is exchanged. -/
def swapF (zs : List Int) (k : Nat) (fs : List (List UInt8)) : List (List UInt8) × Nat :=
  if tapeN zs k 12 = 0 then (fs.set (tapeN zs (k + 1) fs.length) (mPart (tapeN zs (k + 2) 10)), k + 3) else (fs, k + 1)
/-- A line and the tape's place behind it. -/
def lineF (zs : List Int) (k : Nat) : (Nat × List (List UInt8)) × Nat :=
  let w := wordF zs k
  let a := nameF zs (mNameN w.1) 5 0 (w.2 + 1) [mWord w.1]
  let b := numF zs (mNumN w.1) a.2 a.1
  let c := swapF zs b.2 b.1
  ((tapeN zs w.2 99, c.1), c.2)
/-- r lines more. -/
def linesF (zs : List Int) : Nat → Nat → List (Nat × List (List UInt8)) → List (Nat × List (List UInt8))
  | 0, _, acc => acc
  | r + 1, k, acc => linesF zs r (lineF zs k).2 (acc ++ [(lineF zs k).1])
/-- The lines of a tape. -/
def madeF (zs : List Int) : List (Nat × List (List UInt8)) := linesF zs (tapeN zs 0 6) 1 []
/-- Fields as they are made: few and short. -/
def shortF (n : Nat) (fs : List (List UInt8)) : Prop := fs.length ≤ n ∧ ∀ f ∈ fs, f.length ≤ 7
theorem shortF_snoc {n : Nat} {fs : List (List UInt8)} {s : List UInt8} (h : shortF n fs) (hs : s.length ≤ 7) : shortF (n + 1) (fs ++ [s]) := by
  refine ⟨by have := h.1; simp; omega, fun f hf => ?_⟩
  rcases List.mem_append.1 hf with hf | hf
  · exact h.2 f hf
  · simp at hf; subst hf; exact hs
theorem nameF_short {zs : List Int} {m : Nat} : ∀ (f i k : Nat) (fs : List (List UInt8)) (n : Nat), shortF n fs → shortF (n + f) (nameF zs m f i k fs).1 ∧ (nameF zs m f i k fs).2 ≤ k + 2 * f + 1
  | 0, i, k, fs, n, h => ⟨h, by simp [nameF]⟩
  | f + 1, i, k, fs, n, h => by
    unfold nameF
    split
    · obtain ⟨h1, h2⟩ := nameF_short f (i + 1) (k + 2) _ (n + 1) (shortF_snoc h (mPart_len _))
      exact ⟨by rwa [show n + (f + 1) = n + 1 + f by omega], by omega⟩
    · exact ⟨⟨by have := h.1; simp; omega, h.2⟩, by simp⟩
theorem numF_short {zs : List Int} : ∀ (m k : Nat) (fs : List (List UInt8)) (n : Nat), shortF n fs → shortF (n + m) (numF zs m k fs).1 ∧ (numF zs m k fs).2 ≤ k + m
  | 0, k, fs, n, h => ⟨h, by simp [numF]⟩
  | m + 1, k, fs, n, h => by
    unfold numF
    obtain ⟨h1, h2⟩ := numF_short m (k + 1) _ (n + 1) (shortF_snoc h (mPart_len _))
    exact ⟨by rwa [show n + (m + 1) = n + 1 + m by omega], by omega⟩
theorem nameF_ge {zs : List Int} {m : Nat} : ∀ (f i k : Nat) (fs : List (List UInt8)), fs.length ≤ (nameF zs m f i k fs).1.length
  | 0, i, k, fs => Nat.le_refl _
  | f + 1, i, k, fs => by
    unfold nameF
    split
    · exact Nat.le_trans (by simp) (nameF_ge f (i + 1) (k + 2) _)
    · exact Nat.le_refl _
theorem numF_ge {zs : List Int} : ∀ (m k : Nat) (fs : List (List UInt8)), fs.length ≤ (numF zs m k fs).1.length
  | 0, k, fs => Nat.le_refl _
  | m + 1, k, fs => by
    unfold numF
    exact Nat.le_trans (by simp) (numF_ge m (k + 1) _)
theorem swapF_short {zs : List Int} {k n : Nat} {fs : List (List UInt8)} (h : shortF n fs) : shortF n (swapF zs k fs).1 ∧ (swapF zs k fs).2 ≤ k + 3 := by
  unfold swapF
  split
  · refine ⟨⟨by simpa using h.1, fun f hf => ?_⟩, by simp⟩
    rcases List.mem_or_eq_of_mem_set hf with h' | rfl
    · exact h.2 f h'
    · exact mPart_len _
  · exact ⟨h, by simp⟩
theorem lineF_short (zs : List Int) (k : Nat) : shortF 10 (lineF zs k).1.2 ∧ (lineF zs k).2 ≤ k + 30 := by
  have h0 : shortF 1 [mWord (wordF zs k).1] := ⟨by simp, fun f hf => by simp at hf; subst hf; exact mWord_len _⟩
  have hw : (wordF zs k).2 ≤ k + 3 := by unfold wordF; split <;> simp
  obtain ⟨h1, k1⟩ := nameF_short (zs := zs) (m := mNameN (wordF zs k).1) 5 0 ((wordF zs k).2 + 1) _ 1 h0
  obtain ⟨h2, k2⟩ := numF_short (zs := zs) (mNumN (wordF zs k).1) _ _ _ h1
  obtain ⟨h3, k3⟩ := swapF_short (zs := zs) (k := (numF zs (mNumN (wordF zs k).1) (nameF zs (mNameN (wordF zs k).1) 5 0 ((wordF zs k).2 + 1) [mWord (wordF zs k).1]).2 (nameF zs (mNameN (wordF zs k).1) 5 0 ((wordF zs k).2 + 1) [mWord (wordF zs k).1]).1).2) h2
  have hm := mNumN_le (wordF zs k).1
  refine ⟨⟨?_, h3.2⟩, ?_⟩
  · have := h3.1
    show (swapF _ _ _).1.length ≤ 10
    omega
  · show (swapF _ _ _).2 ≤ _
    omega
theorem linesF_short (zs : List Int) : ∀ (r k : Nat) (acc : List (Nat × List (List UInt8))), (∀ x ∈ acc, shortF 10 x.2) → (linesF zs r k acc).length = acc.length + r ∧ ∀ x ∈ linesF zs r k acc, shortF 10 x.2
  | 0, k, acc, h => ⟨rfl, h⟩
  | r + 1, k, acc, h => by
    unfold linesF
    obtain ⟨h1, h2⟩ := linesF_short zs r (lineF zs k).2 (acc ++ [(lineF zs k).1]) (fun x hx => by
      rcases List.mem_append.1 hx with hx | hx
      · exact h x hx
      · simp at hx; subst hx; exact (lineF_short zs k).1)
    exact ⟨by rw [h1]; simp; omega, h2⟩
theorem madeF_short (zs : List Int) : (madeF zs).length ≤ 5 ∧ ∀ x ∈ madeF zs, shortF 10 x.2 := by
  obtain ⟨h1, h2⟩ := linesF_short zs (tapeN zs 0 6) 1 [] (fun x hx => by simp at hx)
  have := tapeN_lt (zs := zs) (k := 0) (n := 6) (by omega)
  exact ⟨by unfold madeF; rw [h1]; simp; omega, h2⟩
end Go.Proofs.YtpglhidhghhmoaaDoor
