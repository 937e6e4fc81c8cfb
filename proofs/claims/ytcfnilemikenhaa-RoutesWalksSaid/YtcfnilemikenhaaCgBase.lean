/- What the walks of layer 6's laws ask of girth's functions, and what these then return at valid graphs. -/
import Derived.Test.YtcfnilemikenhaaGsRef
import Derived.Test.YtcfnilemikenhaaChBase
namespace Go.Proofs.Ytcfnilemikenhaa
open Go Go.RowKit Fl

theorem own_cap {w : World} {base n : Nat} {e : TypeId} {v : Value} {xs : List Value} (h : w.ownsRow base e 1 v n xs) : ∃ A c, v = .slice A n c ∧ n ≤ c ∧ Holds w A xs := by
  have h0 := h
  obtain ⟨h1, h2⟩ := h
  rcases h2 with ⟨rfl, rfl⟩ | ⟨g, cap, cur, rfl, _, _, hc, _⟩
  · exact ⟨none, 0, rfl, Nat.le_refl _, ownsRow_holds h0⟩
  · exact ⟨_, cap, rfl, hc, ownsRow_holds h0⟩
def GirRes (w : World) (l : List Int) (k : Int) (e : Ending) (w' : World) : Prop := ∃ A c, l.length ≤ c ∧ e = .returned (.tuple #[.int .i64 l.length, .slice A l.length c, .int .i64 k]) ∧ Holds w' A (l.map Iv) ∧ Below w.heap.size w w'
theorem WalkPost.res {w w' : World} {l : List Int} {k : Int} {e : Ending} (h : WalkPost w l k e w') : GirRes w l k e w' := by
  obtain ⟨u, rfl, ho, hb⟩ := h
  obtain ⟨A, c, rfl, hc, hr⟩ := own_cap ho
  exact ⟨A, c, hc, rfl, hr, hb⟩
def DevThrough : Prop := ∀ (A B : Option Addr) (c d : Nat) (g : GraphD) (s : List Bool) (v : Int) (w : World), RowsAt w A g → Holds w B (s.map Bo) → Sized g →
  Calls Try.prog 24 #[.slice A g.length c, .slice B s.length d, .int .i64 v] w (GirRes w (thrL g s v) (fromE g s.length v))
theorem through_ok (h : DevThrough) {A B : Option Addr} {c d n v : Nat} {g : GraphD} {s : List Bool} {W : World} (hr : RowsAt W A g) (hs : Holds W B (s.map Bo)) (hg : validG g = true) (hn : g.length = n) (hsl : s.length = n) (hv : v < n) :
    Calls Try.prog 24 #[.slice A n c, .slice B n d, .int .i64 (v : Int)] W fun e w' => ∃ X cx, (thrF g s v).length ≤ cx ∧ e = .returned (.tuple #[.int .i64 (thrF g s v).length, .slice X (thrF g s v).length cx, .int .i64 0]) ∧ Holds w' X ((thrF g s v).map Iv) ∧ Below W.heap.size W w' := by
  have h := h A B c d g s v W hr hs (Sized.valid hg)
  have he : fromE g s.length (v : Int) = 0 := by unfold fromE; rw [if_pos (chkG_ok hg (by omega)), if_pos (by omega)]
  have h1 : thrL g s (v : Int) = thrF g s v := by unfold thrL; rw [if_pos he, Int.toNat_natCast]
  rw [h1, he, hsl, hn] at h
  exact h
theorem cls_of {g : GraphD} {s : List Bool} {l : List Int} (hg : validG g = true) (hsl : s.length = g.length) : clsB g s l = true ↔ ClosedL g s l := by
  rw [clsB_iff]
  exact ⟨fun h => h.2, fun h => ⟨chkG_ok hg hsl, h⟩⟩
abbrev tG : GraphD := [[1], [0, 2], [0]]
theorem tG_valid : validG tG = true := by decide
theorem t_gir : girF tG eS = [0, 1] := by decide
theorem t_thr : thrF tG eS 2 = [2, 0, 1] := by decide
theorem t_cls : clsB tG eS [0, 1] = true := (cls_of tG_valid rfl).2 (by
  have := gir_closed (g := tG) (s := eS) tG_valid (by rw [t_gir]; decide)
  rwa [t_gir] at this)
end Go.Proofs.Ytcfnilemikenhaa
