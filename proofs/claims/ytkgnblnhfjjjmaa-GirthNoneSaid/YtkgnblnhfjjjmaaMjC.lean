/- Joined texts. -/
import Derived.Test.YtkgnblnhfjjjmaaRcReach
import Derived.Test.YtkgnblnhfjjjmaaRdValid
import Derived.Laws.Rows
import Derived.Laws.Tables
import Derived.Test.YtkgnblnhfjjjmaaMjA
import Derived.Lib.SliceRun
namespace Go.Proofs.Ytkgnblnhfjjjmaa
open Go Go.RowKit Fl

def mk24 (f : Nat → Bool) : List Bool := (List.range 24).map f
theorem mk24_length (f : Nat → Bool) : (mk24 f).length = 24 := by simp [mk24]
theorem mk24_at {f : Nat → Bool} {k : Nat} (h : k < (mk24 f).length) : (mk24 f)[k] = f k := by simp [mk24]
theorem mk24_congr {f f' : Nat → Bool} (h : ∀ i, i < 24 → f i = f' i) : mk24 f = mk24 f' := by
  unfold mk24
  exact List.map_congr_left fun i hi => h i (List.mem_range.1 hi)
theorem mk24_set {f f' : Nat → Bool} {k : Nat} {z : Bool} (hz : f' k = z) (hf : ∀ i, i ≠ k → f' i = f i) : (mk24 f).set k z = mk24 f' := by
  refine List.ext_getElem (by simp [mk24]) fun i h1 h2 => ?_
  rw [List.getElem_set]
  by_cases h : k = i
  · subst h; rw [if_pos rfl, mk24_at, hz]
  · rw [if_neg h, mk24_at, mk24_at, hf i (fun e => h e.symm)]
theorem mk24_none : mk24 (fun _ => false) = List.replicate 24 false := by simp [mk24, List.map_const']
/-- The cells of an array of marks. -/
def cellsM (l : List Bool) : Array Value := (l.map Bo).toArray
theorem cellsM_size (l : List Bool) : (cellsM l).size = l.length := by simp [cellsM]
theorem cellsM_one (l : List Bool) : (cellsM l).all (·.oneCell') = true := by
  refine Array.all_eq_true_iff_forall_mem.2 fun v hv => ?_
  simp only [cellsM, List.mem_toArray, List.mem_map] at hv
  obtain ⟨x, _, rfl⟩ := hv
  rfl
theorem below_row {B G : Nat} {w w' : World} (h : Below B w w') (hg : B ≤ G) (c : Array Value) : Below B w (w'.setRow G c) := by
  refine ⟨h.os, h.tape, h.output, Nat.le_trans h.size (by simp [World.setRow]), fun k hk => ?_⟩
  rw [setRow_other w' G k c (by omega)]
  exact h.block k hk
section
variable {ops : Array Oper} {rest : List Oper} {o : Oper} {a : Act} {w : World} {Q : Exit → Act → World → Prop}
end
/-- The open vertices. -/
def openM (s : List Bool) : List Bool := mk24 fun v => decide (v < s.length) && !atB s v
theorem openM_length (s : List Bool) : (openM s).length = 24 := mk24_length _
end Go.Proofs.Ytkgnblnhfjjjmaa
namespace Go.Proofs.Ytkgnblnhfjjjmaa
open Go Go.RowKit Fl

/-- Marks of the vertices of a graph, and false behind them. -/
def padM (M : List Bool) : List Bool := M ++ List.replicate (24 - M.length) false
theorem padM_length {M : List Bool} (h : M.length ≤ 24) : (padM M).length = 24 := by simp [padM]; omega
theorem padM_lt {M : List Bool} {k : Nat} (h : k < M.length) : k < (padM M).length := by simp [padM]; omega
theorem padM_at {M : List Bool} {k : Nat} (h : k < M.length) : (padM M)[k]'(padM_lt h) = M[k] := by simp [padM, h]
theorem padM_set {M : List Bool} {k : Nat} {z : Bool} (h : k < M.length) : (padM M).set k z = padM (M.set k z) := by
  unfold padM
  rw [List.set_append_left _ _ h, List.length_set]
theorem padM_none {n : Nat} (h : n ≤ 24) : padM (List.replicate n false) = mk24 fun _ => false := by
  unfold padM
  rw [List.length_replicate, List.replicate_append_replicate, mk24_none]
  congr 1
  omega
theorem openM_at {s : List Bool} {k : Nat} (h : k < s.length) (h24 : k < 24) : (openM s)[k]'(by rw [openM_length]; exact h24) = !s[k] := by
  unfold openM
  rw [mk24_at, atB_at h]
  simp [h]
theorem own_other {w w' : World} {base n : Nat} {e : TypeId} {v : Value} {xs : List Value} (h : w.ownsRow base e 1 v n xs) (hw : ∀ b, base ≤ b → w'.heap[b]? = w.heap[b]?) : w'.ownsRow base e 1 v n xs := by
  obtain ⟨h1, h2⟩ := h
  refine ⟨h1, ?_⟩
  rcases h2 with h2 | ⟨g, cap, cur, hv, hb, hh, hr⟩
  · exact .inl h2
  · exact .inr ⟨g, cap, cur, hv, hb, (hw g hb).trans hh, hr⟩
theorem own_newI {w : World} {base q : Nat} {z : Int} (h : w.heap[q]? = some (.cells #[Iv z] 3 (0, 0))) (hb : base ≤ q) : w.ownsRow base 3 1 (.slice (some ⟨q, 0, none⟩) 1 1) 1 ([z].map Iv) :=
  ⟨rfl, .inr ⟨q, 1, #[Iv z], rfl, hb, h, by omega, by unfold maxLen; omega, rfl, rfl⟩⟩
end Go.Proofs.Ytkgnblnhfjjjmaa
namespace Go.Proofs.Ytkgnblnhfjjjmaa
open Go Go.RowKit Fl

theorem own_low {w : World} {base base' n : Nat} {e : TypeId} {v : Value} {xs : List Value} (h : w.ownsRow base e 1 v n xs) (hb : base' ≤ base) : w.ownsRow base' e 1 v n xs := by
  obtain ⟨h1, h2⟩ := h
  refine ⟨h1, ?_⟩
  rcases h2 with h2 | ⟨g, cap, cur, hv, hg, hr⟩
  · exact .inl h2
  · exact .inr ⟨g, cap, cur, hv, Nat.le_trans hb hg, hr⟩
end Go.Proofs.Ytkgnblnhfjjjmaa
namespace Go.Proofs.Ytkgnblnhfjjjmaa
open Go Go.RowKit Fl

theorem Try.infoBoolC : (Try.prog.info? 4).map (fun i => (i.zero, i.size, i.bytes)) = some (some (.bool false), 1, 1) := by kernel_rfl
end Go.Proofs.Ytkgnblnhfjjjmaa
