/- What both sides of TokenFills return, and the tape's number below a length. -/
import Derived.Test.YtfgpenekmokdiaaTkRefF
import Derived.Test.YtfgpenekmokdiaaTkRepR
import Derived.Test.YtfgpenekmokdiaaTkSameM
import Derived.Test.YtfgpenekmokdiaaMzBD
import Derived.Test.YtfgpenekmokdiaaMzAW
import Derived.Test.YtfgpenekmokdiaaMzAO
namespace Go.Proofs.Ytfgpenekmokdiaa
open Go Go.RowKit Fl

def tiA (g : GraphD) : List Int := if validG g = true then girF g (opensT g.length) else []
def tiB (g : GraphD) : List Int := if validG g = true then rotL (girF g (opensT g.length)) else []
def tiE (g : GraphD) : Int := if validG g = true then (if girF g (opensT g.length) = [] then 25 else 0) else 20
theorem TightPost.res {g : GraphD} {w w' : World} {e : Ending} (h : TightPost g w e w') : ∃ X cx Y cy, e = .returned (.tuple #[.slice X (tiA g).length cx, .slice Y (tiB g).length cy, .int .i64 (tiE g)]) ∧ Holds w' X ((tiA g).map Iv) ∧ Holds w' Y ((tiB g).map Iv) ∧ Below w.heap.size w w' := by
  obtain ⟨hb, he⟩ := h
  unfold tiA tiB tiE
  by_cases hv : validG g = true
  · rw [if_pos hv] at he
    rw [if_pos hv, if_pos hv, if_pos hv]
    by_cases hn : girF g (opensT g.length) = []
    · rw [if_pos hn] at he
      subst he
      rw [if_pos hn, hn]
      exact ⟨none, 0, none, 0, rfl, .inl rfl, .inl rfl, hb⟩
    · rw [if_neg hn] at he
      rw [if_neg hn]
      obtain ⟨u, v, rfl, h1, h2⟩ := he
      obtain ⟨X, cx, rfl, hx⟩ := own_is h1
      obtain ⟨Y, cy, rfl, hy⟩ := own_is h2
      rw [rotL_length]
      exact ⟨X, cx, Y, cy, rfl, hx, hy, hb⟩
  · rw [if_neg hv] at he
    subst he
    rw [if_neg hv, if_neg hv, if_neg hv]
    exact ⟨none, 0, none, 0, rfl, .inl rfl, .inl rfl, hb⟩
theorem tiA_len (g : GraphD) : (tiA g).length ≤ 1000000000000000000 := by
  unfold tiA
  by_cases hv : validG g = true
  · rw [if_pos hv]
    have := gir_few (sh := opensT g.length) hv
    omega
  · rw [if_neg hv]; simp
theorem tiB_len (g : GraphD) : (tiB g).length ≤ 1000000000000000000 := by
  unfold tiB
  by_cases hv : validG g = true
  · rw [if_pos hv, rotL_length]
    have := gir_few (sh := opensT g.length) hv
    omega
  · rw [if_neg hv]; simp
def fiO (g : GraphD) (v : Int) : List MoveD := if validG g = true ∧ (0 ≤ v ∧ v < g.length) ∧ 0 ≤ nearP g v.toNat then fillM g v.toNat else []
def fiE (g : GraphD) (v : Int) : Int := if validG g = true then (if 0 ≤ v ∧ v < g.length then (if 0 ≤ nearP g v.toNat then 0 else 25) else 19) else 20
theorem FillRes.own {g : GraphD} {v : Int} {B : Nat} {w' : World} {e : Ending} (h : FillRes g v B e w') : ∃ u, e = .returned (.tuple #[u, .int .i64 (fiE g v)]) ∧ w'.ownsRow B 42 3 u (fiO g v).length (moveCells (fiO g v)) := by
  unfold fiO fiE
  rcases h with ⟨h1, rfl⟩ | ⟨h1, h2, rfl⟩ | ⟨h1, h2, h3, rfl⟩ | ⟨h1, h2, h3, u, rfl, ho⟩
  · rw [if_neg (by rw [h1]; decide), if_neg (fun h => by rw [h1] at h; exact absurd h.1 (by decide))]
    exact ⟨_, rfl, World.ownsRow_nil _ _ _ _⟩
  · rw [if_pos h1, if_neg h2, if_neg (fun h => h2 h.2.1)]
    exact ⟨_, rfl, World.ownsRow_nil _ _ _ _⟩
  · rw [if_pos h1, if_pos h2, if_neg (by omega), if_neg (fun h => by have := h.2.2; omega)]
    exact ⟨_, rfl, World.ownsRow_nil _ _ _ _⟩
  · rw [if_pos h1, if_pos h2, if_pos h3, if_pos ⟨h1, h2, h3⟩]
    exact ⟨u, rfl, ho⟩
theorem own_isQ {w : World} {base n : Nat} {e : TypeId} {v : Value} {xs : List Value} (h : w.ownsRow base e 3 v n xs) (hx : xs.length = n * 3) : ∃ A c, v = .slice A n c ∧ Holds w A xs := by
  rcases own_capM h with ⟨rfl, rfl⟩ | ⟨g, cap, rfl, _, hh⟩
  · exact ⟨none, 0, rfl, .inl (List.eq_nil_of_length_eq_zero (by omega))⟩
  · exact ⟨_, cap, rfl, hh⟩
theorem FillRes.res {g : GraphD} {v : Int} {B : Nat} {w' : World} {e : Ending} (h : FillRes g v B e w') : ∃ X cx, e = .returned (.tuple #[.slice X (fiO g v).length cx, .int .i64 (fiE g v)]) ∧ Holds w' X (moveCells (fiO g v)) := by
  obtain ⟨u, rfl, ho⟩ := h.own
  obtain ⟨X, cx, rfl, hx⟩ := own_isQ ho (moveCells_length _)
  exact ⟨X, cx, rfl, hx⟩
theorem fiO_len (g : GraphD) (v : Int) : (fiO g v).length ≤ 1200 := by
  unfold fiO
  split
  · rename_i h
    obtain ⟨h1, h2, h3⟩ := h
    rcases fill_all (e := v.toNat) h1 (by omega) with ⟨h4, _⟩ | ⟨_, h4, _⟩
    · omega
    · exact fillM_len h1 h3 h4
  · simp
def reO (g : GraphD) (ms : List MoveD) : List Int := if validG g = true ∧ ms.length ≤ 1200 then (playL g [] ms).getD [] else []
def reE (g : GraphD) (ms : List MoveD) : Int := if validG g = true then (if 1200 < ms.length then 14 else if (playL g [] ms).isSome then 0 else 24) else 20
theorem RepRes.res {g : GraphD} {ms : List MoveD} {B : Nat} {w' : World} {e : Ending} (h : RepRes g ms B e w') : ∃ X cx, e = .returned (.tuple #[.slice X (reO g ms).length cx, .int .i64 (reE g ms)]) ∧ Holds w' X ((reO g ms).map Iv) := by
  unfold reO reE
  rcases h with ⟨h1, rfl⟩ | ⟨h1, h2, rfl⟩ | ⟨h1, h2, h3, rfl⟩ | ⟨h1, h2, ts, u, h3, rfl, ho⟩
  · rw [if_neg (fun h => by rw [h1] at h; exact absurd h.1 (by decide)), if_neg (by rw [h1]; decide)]
    exact ⟨none, 0, rfl, .inl rfl⟩
  · rw [if_neg (fun h => by have := h.2; omega), if_pos h1, if_pos h2]
    exact ⟨none, 0, rfl, .inl rfl⟩
  · rw [if_pos ⟨h1, h2⟩, if_pos h1, if_neg (by omega), h3]
    exact ⟨none, 0, rfl, .inl rfl⟩
  · rw [if_pos ⟨h1, h2⟩, if_pos h1, if_neg (by omega), h3]
    obtain ⟨X, cx, rfl, hx⟩ := own_is ho
    exact ⟨X, cx, rfl, hx⟩
theorem play1_len {g : GraphD} {ts r : List Int} {m : MoveD} (h : play1 g ts m = some r) : r.length ≤ ts.length + 1 := by
  unfold play1 at h
  split at h
  · cases h
  · split at h
    · injection h with h; subst h; simp
    · split at h
      · injection h with h; subst h; simp
      · cases h
theorem playL_len {g : GraphD} : ∀ (ms : List MoveD) (ts r : List Int), playL g ts ms = some r → r.length ≤ ts.length + ms.length
  | [], ts, r, h => by injection h with h; subst h; simp
  | m :: l, ts, r, h => by
    simp only [playL] at h
    rcases hp : play1 g ts m with _ | t
    · rw [hp] at h; cases h
    · rw [hp] at h
      have h1 := playL_len l t r h
      have h2 := play1_len hp
      simp only [List.length_cons]
      omega
theorem reO_len (g : GraphD) (ms : List MoveD) : (reO g ms).length ≤ 1000000000000000000 := by
  unfold reO
  split
  · rename_i h
    rcases hp : playL g [] ms with _ | r
    · simp
    · have := playL_len ms [] r hp
      simp only [List.length_nil, Option.getD_some] at this ⊢
      omega
  · simp
theorem nextLen_c (B g T n : Nat) (w : World) (ht : TapeOk w B g T) (hT : T ≤ 1000000000) (hn : n ≤ 1000000) : Calls Try.prog 22 #[.pointer (some ⟨g, 0, none⟩), .int .i64 n] w fun e w' => ∃ r : Nat, r ≤ n ∧ e = .returned (.int .i64 r) ∧ TapeOk w' B g (T + 1) ∧ w.grownBy w' (some g) := by
  rcases Nat.eq_zero_or_pos n with rfl | h
  · refine (next0_c B g T _ w ht hT (by omega) (by omega)).mono ?_
    rintro e w' ⟨r, hr, he, h1, h2⟩
    exact ⟨r, by omega, he, h1, h2⟩
  · refine (next_c B g T _ w ht hT (by omega) (by omega)).mono ?_
    rintro e w' ⟨r, hr, he, h1, h2⟩
    exact ⟨r, by omega, he, h1, h2⟩
/-- What the loop holds: a graph, moves and an entrance. -/
def Fills12 (w : World) (raw mv vv : Value) : Prop := ∃ (A A1 : Option Addr) (c c1 : Nat) (g : GraphD) (ms : List MoveD) (v : Int), raw = .slice A g.length c ∧ mv = .slice A1 ms.length c1 ∧ vv = .int .i64 v ∧ RowsAt w A g ∧ Holds w A1 (moveCells ms) ∧ Sized g ∧ ms.length ≤ 1000000000000000000
theorem Fills12.keep {w w' : World} {raw mv vv : Value} (h : Fills12 w raw mv vv) (hb : Below w.heap.size w w') : Fills12 w' raw mv vv := by
  obtain ⟨A, A1, c, c1, g, ms, v, h1, h2, h3, h4, h5, h6, h7⟩ := h
  exact ⟨A, A1, c, c1, g, ms, v, h1, h2, h3, h4.keep hb, h5.keep hb, h6, h7⟩
end Go.Proofs.Ytfgpenekmokdiaa
