/- Contract of fields.Lines: it returns the lines of a text that have fields, or the number of the first line with an error, and the error. -/
import Derived.Test.YtpglhidhghhmoaaDoorFdScan
import Derived.Test.YtpglhidhghhmoaaDoorFdLinesSpec
namespace Go.Proofs.YtpglhidhghhmoaaDoor
open Go.RowKit Fl
attribute [local go_sem] bget

/-- The slice v holds the strings ss. -/
def StrsAt (w : World) (v : Value) (ss : List (List UInt8)) : Prop := ∃ A c, v = .slice A ss.length c ∧ Holds w A (ss.map S)
theorem StrsAt.keep {w w' : World} {v : Value} {ss : List (List UInt8)} (h : StrsAt w v ss) (hb : Below w.heap.size w w') : StrsAt w' v ss := by
  obtain ⟨A, c, hv, hh⟩ := h
  exact ⟨A, c, hv, hh.keep hb⟩
theorem own_slice {w : World} {base : Nat} {e : TypeId} {size n : Nat} {v : Value} {xs : List Value} (h : w.ownsRow base e size v n xs) : ∃ A c, v = .slice A n c := by
  obtain ⟨_, h2⟩ := h
  rcases h2 with ⟨rfl, rfl⟩ | ⟨g, cap, cur, rfl, _⟩
  · exact ⟨_, _, rfl⟩
  · exact ⟨_, _, rfl⟩
/-- The cells of lines: a number and a slice for each. -/
def lineCells : List (Nat × List (List UInt8)) → List Value → List Value
  | l :: ls, fv :: fvs => .int .i64 l.1 :: fv :: lineCells ls fvs
  | _, _ => []
theorem lineCells_snoc : ∀ (ls : List (Nat × List (List UInt8))) (fvs : List Value) (l : Nat × List (List UInt8)) (fv : Value), fvs.length = ls.length → lineCells (ls ++ [l]) (fvs ++ [fv]) = lineCells ls fvs ++ [.int .i64 l.1, fv]
  | [], [], _, _, _ => rfl
  | [], _ :: _, _, _, h => by simp at h
  | _ :: _, [], _, _, h => by simp at h
  | a :: ls, b :: fvs, l, fv, h => by
    simp only [List.cons_append, lineCells]
    rw [lineCells_snoc ls fvs l fv (by simpa using h)]
theorem lineCells_length : ∀ (ls : List (Nat × List (List UInt8))) (fvs : List Value), fvs.length = ls.length → (lineCells ls fvs).length = ls.length * 2
  | [], [], _ => rfl
  | [], _ :: _, h => by simp at h
  | _ :: _, [], h => by simp at h
  | a :: ls, b :: fvs, h => by
    simp only [lineCells, List.length_cons]
    rw [lineCells_length ls fvs (by simpa using h)]; omega
/-- The slice v, a row of the call's own, holds the lines ls. -/
def LinesOwn (w : World) (base : Nat) (v : Value) (ls : List (Nat × List (List UInt8))) : Prop :=
  ∃ fvs : List Value, fvs.length = ls.length ∧ w.ownsRow base 58 2 v ls.length (lineCells ls fvs) ∧ ∀ (i : Nat) (fv : Value) (l : Nat × List (List UInt8)), fvs[i]? = some fv → ls[i]? = some l → w.ownsRow base 9 1 fv l.2.length (l.2.map S)
theorem strs_of_own {w : World} {base : Nat} {fv : Value} {ss : List (List UInt8)} (h : w.ownsRow base 9 1 fv ss.length (ss.map S)) : StrsAt w fv ss := by
  obtain ⟨A, c, rfl⟩ := own_slice h
  exact ⟨A, c, rfl, ownsRow_holds h⟩
/-- The slice v holds the lines ls. -/
def LinesAt (w : World) (v : Value) (ls : List (Nat × List (List UInt8))) : Prop :=
  ∃ A c fvs, v = .slice A ls.length c ∧ fvs.length = ls.length ∧ Holds w A (lineCells ls fvs) ∧ ∀ (i : Nat) (fv : Value) (l : Nat × List (List UInt8)), fvs[i]? = some fv → ls[i]? = some l → StrsAt w fv l.2
theorem LinesOwn.at_ {w : World} {base : Nat} {v : Value} {ls : List (Nat × List (List UInt8))} (h : LinesOwn w base v ls) : LinesAt w v ls := by
  obtain ⟨fvs, hl, hown, hf⟩ := h
  obtain ⟨A, c, rfl⟩ := own_slice hown
  exact ⟨A, c, fvs, rfl, hl, ownsRow_holds hown, fun i fv l h1 h2 => strs_of_own (hf i fv l h1 h2)⟩
theorem LinesOwn.keep {w w' : World} {base : Nat} {v : Value} {ls : List (Nat × List (List UInt8))} (h : LinesOwn w base v ls) (hb : Below w.heap.size w w') : LinesOwn w' base v ls := by
  obtain ⟨fvs, hl, hown, hf⟩ := h
  exact ⟨fvs, hl, ownsRow_below hown hb, fun i fv l h1 h2 => ownsRow_below (hf i fv l h1 h2) hb⟩
theorem LinesAt.keep {w w' : World} {v : Value} {ls : List (Nat × List (List UInt8))} (h : LinesAt w v ls) (hb : Below w.heap.size w w') : LinesAt w' v ls := by
  obtain ⟨A, c, fvs, hv, hl, hh, hf⟩ := h
  exact ⟨A, c, fvs, hv, hl, hh.keep hb, fun i fv l h1 h2 => (hf i fv l h1 h2).keep hb⟩
def LinesPost (w : World) (R : Except (Nat × Nat) (List (Nat × List (List UInt8)))) (e : Ending) (w' : World) : Prop :=
  Below w.heap.size w w' ∧ match R with
    | .ok ls => ∃ v, e = .returned (.tuple #[v, .int .i64 0, .int .i64 0]) ∧ LinesAt w' v ls
    | .error (n, k) => e = .returned (.tuple #[.slice none 0 0, .int .i64 n, .int .i64 k])

theorem scanA_err : ∀ (l cur : List UInt8) (acc : List (List UInt8)) (e : Nat), scanA cur acc l = .error e → e = 2 ∨ e = 3
  | [], _, _, _, h => by cases h
  | c :: r, cur, acc, e, h => by
    unfold scanA at h
    split at h
    · cases h
    · split at h
      · exact scanA_err r _ _ e h
      · split at h
        · split at h
          · injection h with h; omega
          · exact scanA_err r _ _ e h
        · injection h with h; omega
theorem scanA_count : ∀ (l cur : List UInt8) (acc fs : List (List UInt8)), scanA cur acc l = .ok fs → fs.length ≤ acc.length + 1 + l.length
  | [], cur, acc, fs, h => by
    injection h with h; subst h; unfold flush; split <;> simp
  | c :: r, cur, acc, fs, h => by
    have hf : ∀ a : List (List UInt8), flush cur a = a ∨ flush cur a = a ++ [cur] := fun a => by unfold flush; split <;> simp
    unfold scanA at h
    split at h
    · injection h with h; subst h
      rcases hf acc with e | e <;> rw [e] <;> simp; omega
    · split at h
      · have := scanA_count r _ _ fs h
        rcases hf acc with e | e <;> rw [e] at this <;> simp at this ⊢ <;> omega
      · split at h
        · split at h
          · cases h
          · have := scanA_count r _ _ fs h
            simp at this ⊢; omega
        · cases h
theorem LinesOwn.snoc {w w2 w3 : World} {base n : Nat} {v v' : Value} {ls : List (Nat × List (List UInt8))} {fvs : List Value} {A : Option Addr} {c num : Nat} {fs : List (List UInt8)} {cs : Array Value} {t : TypeId}
    (hl : fvs.length = ls.length) (hown : w2.ownsRow base 58 2 v ls.length (lineCells ls fvs)) (hf : ∀ (i : Nat) (fv : Value) (l : Nat × List (List UInt8)), fvs[i]? = some fv → ls[i]? = some l → w.ownsRow base 9 1 fv l.2.length (l.2.map S))
    (hb : Below w.heap.size w w2) (hn : w2.ownsRow n 9 1 (.slice A fs.length c) fs.length (fs.map S)) (hbn : base ≤ n)
    (hg : (w2.alloc (.cells cs t)).grownBy w3 v.ownBlock) (h3 : w3.ownsRow base 58 2 v' (ls.length + 1) (lineCells ls fvs ++ [.int .i64 num, .slice A fs.length c])) :
    LinesOwn w3 base v' (ls ++ [(num, fs)]) := by
  refine ⟨fvs ++ [.slice A fs.length c], by simp [hl], by rw [lineCells_snoc ls fvs _ _ hl]; simpa using h3, fun i fv l h1 h2 => ?_⟩
  have keep : ∀ {b2 : Nat} {fv : Value} {ss : List (List UInt8)}, w2.ownsRow b2 9 1 fv ss.length (ss.map S) → w3.ownsRow b2 9 1 fv ss.length (ss.map S) := fun h =>
    ownsRow_apart (h.alloc _) (hown.alloc _) (by decide) hg
  rcases Nat.lt_or_ge i ls.length with hi | hi
  · rw [List.getElem?_append_left (by omega)] at h1 h2
    exact keep (ownsRow_below (hf i fv l h1 h2) hb)
  · rw [List.getElem?_append_right (by omega)] at h1 h2
    have hi0 : i - ls.length = 0 := by
      rcases Nat.eq_zero_or_pos (i - ls.length) with h | h
      · exact h
      · rw [List.getElem?_eq_none (by simp; omega)] at h2; cases h2
    rw [hl, hi0] at h1
    rw [hi0] at h2
    simp at h1 h2
    subst h1 h2
    exact ownsRow_base (keep hn) hbn
theorem Tryd.infoLine : (Tryd.prog.info? 58).map (fun i => (i.zero, i.size, i.bytes)) = some (some (.agg #[.int .i64 0, .slice none 0 0]), 2, 32) := by kernel_rfl

end Go.Proofs.YtpglhidhghhmoaaDoor
