/- What ReachClosed asks of From besides: what it returns is a row of the call's own. -/
import Derived.Test.YtcfnilemikenhaaRhDev
namespace Go.Proofs.Ytcfnilemikenhaa
open Go Go.RowKit Fl

theorem own_low {w : World} {base base' n : Nat} {e : TypeId} {v : Value} {xs : List Value} (h : w.ownsRow base e 1 v n xs) (hb : base' ≤ base) : w.ownsRow base' e 1 v n xs := by
  obtain ⟨h1, h2⟩ := h
  refine ⟨h1, ?_⟩
  rcases h2 with h2 | ⟨g, cap, cur, hv, hg, hr⟩
  · exact .inl h2
  · exact .inr ⟨g, cap, cur, hv, Nat.le_trans hb hg, hr⟩
def DevFromO : Prop := ∀ (A B : Option Addr) (c d : Nat) (g : GraphD) (s : List Bool) (v : Int) (w : World), RowsAt w A g → Holds w B (s.map Bo) → Sized g →
  Calls Try.prog 22 #[.slice A g.length c, .slice B s.length d, .int .i64 v] w (FromPost w (fromL g s v) (fromE g s.length v))
theorem DevFromO.plain (h : DevFromO) : DevFrom := fun A B c d g s v w hr hs hz => (h A B c d g s v w hr hs hz).mono fun e w' ⟨u, h1, h2, h3⟩ => by
  obtain ⟨X, cx, rfl, h4⟩ := own_is h2
  exact ⟨X, cx, h1, h4, h3⟩
theorem fromO_ok (hF : DevFromO) {A B : Option Addr} {c d n v : Nat} {g : GraphD} {s : List Bool} {W : World} (hr : RowsAt W A g) (hs : Holds W B (s.map Bo)) (hg : validG g = true) (hn : g.length = n) (hsl : s.length = n) (hv : v < n) :
    Calls Try.prog 22 #[.slice A n c, .slice B n d, .int .i64 (v : Int)] W fun e w' => ∃ x, e = .returned (.tuple #[x, .int .i64 0]) ∧ w'.ownsRow W.heap.size 4 1 x n ((reachL g s v).map Bo) ∧ Below W.heap.size W w' := by
  have h := hF A B c d g s v W hr hs (Sized.valid hg)
  have hc : chkG g s.length = 0 := by unfold chkG; rw [hg, hsl, hn]; simp
  have he : fromE g s.length (v : Int) = 0 := by unfold fromE; rw [if_pos hc, if_pos (by omega)]
  have hl : fromL g s (v : Int) = reachL g s v := by rw [fromL_ok he, Int.toNat_natCast]
  rw [hl, he, hsl, hn] at h
  refine h.mono fun e w' ⟨x, h1, h2, h3⟩ => ⟨x, h1, ?_, h3⟩
  rw [reachL_length, hn] at h2
  exact h2
end Go.Proofs.Ytcfnilemikenhaa
