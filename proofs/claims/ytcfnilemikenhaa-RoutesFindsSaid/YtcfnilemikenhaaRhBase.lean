/- What reach's functions return at valid graphs, under what RhDev asks of them. -/
import Derived.Test.YtcfnilemikenhaaRhDev
import Derived.Test.YtcfnilemikenhaaGrSame
import Derived.Test.YtcfnilemikenhaaTpArg
namespace Go.Proofs.Ytcfnilemikenhaa
open Go Go.RowKit Fl

theorem chkG_ok {g : GraphD} {m : Nat} (hg : validG g = true) (hm : m = g.length) : chkG g m = 0 := by unfold chkG; rw [hg, hm]; simp
theorem from_ok (hF : DevFrom) {A B : Option Addr} {c d n v : Nat} {g : GraphD} {s : List Bool} {W : World} (hr : RowsAt W A g) (hs : Holds W B (s.map Bo)) (hg : validG g = true) (hn : g.length = n) (hsl : s.length = n) (hv : v < n) :
    Calls Try.prog 22 #[.slice A n c, .slice B n d, .int .i64 (v : Int)] W fun e w' => ∃ X cx, e = .returned (.tuple #[.slice X n cx, .int .i64 0]) ∧ Holds w' X ((reachL g s v).map Bo) ∧ Below W.heap.size W w' := by
  have h := hF A B c d g s v W hr hs (Sized.valid hg)
  have he : fromE g s.length (v : Int) = 0 := by unfold fromE; rw [if_pos (chkG_ok hg (by omega)), if_pos (by omega)]
  rw [hsl, hn] at h
  rw [hsl] at he
  refine h.mono fun e w' ⟨X, cx, h1, h2, h3⟩ => ⟨X, cx, ?_, ?_, h3⟩
  · rw [h1, he, fromL_ok (by rw [hsl]; exact he), reachL_length, hn]
  · rw [fromL_ok (by rw [hsl]; exact he), Int.toNat_natCast] at h2
    exact h2
theorem reverse_ok (hR : DevReverse) {A : Option Addr} {c n : Nat} {g : GraphD} {W : World} (hr : RowsAt W A g) (hg : validG g = true) (hn : g.length = n) :
    Calls Try.prog 46 #[.slice A n c] W fun e w' => ∃ X cx, e = .returned (.tuple #[.slice X n cx, .int .i64 0]) ∧ RowsAt w' X (revG g) ∧ Below W.heap.size W w' := by
  have h := hR A c g W hr (Sized.valid hg)
  have h1 : revL g = revG g := by unfold revL; rw [if_pos hg]
  have h2 : revE g = 0 := by unfold revE; rw [if_pos hg]
  rw [h1, h2, hn] at h
  refine h.mono fun e w' ⟨X, cx, h3, h4⟩ => ⟨X, cx, ?_, h4⟩
  rw [h3, revG_length, hn]
theorem without_ok (hW : DevWithout) {A B : Option Addr} {c d n : Nat} {g : GraphD} {s : List Bool} {W : World} (hr : RowsAt W A g) (hs : Holds W B (s.map Bo)) (hg : validG g = true) (hn : g.length = n) (hsl : s.length = n) :
    Calls Try.prog 41 #[.slice A n c, .slice B n d] W fun e w' => ∃ X cx, e = .returned (.tuple #[.slice X n cx, .int .i64 0]) ∧ RowsAt w' X (woG g s) ∧ Below W.heap.size W w' := by
  have h := hW A B c d g s W hr hs (Sized.valid hg)
  have h0 := chkG_ok (m := s.length) hg (by omega)
  have h1 : woL g s = woG g s := by unfold woL; rw [if_pos h0]
  rw [h1, h0, hsl, hn] at h
  refine h.mono fun e w' ⟨X, cx, h3, h4⟩ => ⟨X, cx, ?_, h4⟩
  rw [h3, woG_length, hn]
theorem reach_at {g : GraphD} {s : List Bool} {w : World} {X : Option Addr} {a k n : Nat} (hn : g.length = n) (h : Holds w X ((reachL g s a).map Bo)) (hk : k < n) : ∃ b o z, X = some ⟨b, o, none⟩ ∧ w.cell? ⟨b, o + k, none⟩ = some (.bool z) ∧ (z = true ↔ PathG g s a k) := by
  have hk' : k < (reachL g s a).length := by rw [reachL_length]; omega
  obtain ⟨b, o, h1, h2⟩ := h.bo hk'
  refine ⟨b, o, _, h1, h2, ?_⟩
  rw [← atB_at hk']
  exact reachL_at (by omega)
theorem marks_at {s : List Bool} {w : World} {B : Option Addr} {k : Nat} (h : Holds w B (s.map Bo)) (hk : k < s.length) : ∃ b o, B = some ⟨b, o, none⟩ ∧ w.cell? ⟨b, o + k, none⟩ = some (.bool (atB s k)) := by
  obtain ⟨b, o, h1, h2⟩ := h.bo hk
  exact ⟨b, o, h1, by rw [atB_at hk]; exact h2⟩
theorem Still.grown {g : Nat} {a b : World} (h : Still g a.heap.size a b) : a.grownBy b (some g) :=
  ⟨h.os, h.tape, h.output, h.size, fun k hk hne => h.block k hk (fun e => hne (by rw [e]))⟩
end Go.Proofs.Ytcfnilemikenhaa
