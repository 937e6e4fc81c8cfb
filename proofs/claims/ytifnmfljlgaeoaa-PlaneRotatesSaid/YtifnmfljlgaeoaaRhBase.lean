/- What reach's functions return at valid graphs, under what RhDev asks of them. -/
import Derived.Test.YtifnmfljlgaeoaaRhDev
import Derived.Test.YtifnmfljlgaeoaaGrSame
import Derived.Test.YtifnmfljlgaeoaaTpArg
namespace Go.Proofs.Ytifnmfljlgaeoaa
open Go Go.RowKit Fl

theorem chkG_ok {g : GraphD} {m : Nat} (hg : validG g = true) (hm : m = g.length) : chkG g m = 0 := by unfold chkG; rw [hg, hm]; simp
theorem reach_at {g : GraphD} {s : List Bool} {w : World} {X : Option Addr} {a k n : Nat} (hn : g.length = n) (h : Holds w X ((reachL g s a).map Bo)) (hk : k < n) : ∃ b o z, X = some ⟨b, o, none⟩ ∧ w.cell? ⟨b, o + k, none⟩ = some (.bool z) ∧ (z = true ↔ PathG g s a k) := by
  have hk' : k < (reachL g s a).length := by rw [reachL_length]; omega
  obtain ⟨b, o, h1, h2⟩ := h.bo hk'
  refine ⟨b, o, _, h1, h2, ?_⟩
  rw [← atB_at hk']
  exact reachL_at (by omega)
theorem marks_at {s : List Bool} {w : World} {B : Option Addr} {k : Nat} (h : Holds w B (s.map Bo)) (hk : k < s.length) : ∃ b o, B = some ⟨b, o, none⟩ ∧ w.cell? ⟨b, o + k, none⟩ = some (.bool (atB s k)) := by
  obtain ⟨b, o, h1, h2⟩ := h.bo hk
  exact ⟨b, o, h1, by rw [atB_at hk]; exact h2⟩
theorem Still.grown {g : Nat} {a b : World} (h : Still g a.heap.size a b) : a.grownBy b (some g) :=
  ⟨h.os, h.tape, h.output, h.size, fun k hk hne => h.block k hk (fun e => hne (by rw [e]))⟩
end Go.Proofs.Ytifnmfljlgaeoaa
