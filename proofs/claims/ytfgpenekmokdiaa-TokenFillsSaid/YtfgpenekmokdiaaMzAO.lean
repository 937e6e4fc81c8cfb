/- Joined texts. -/
import Derived.Test.YtfgpenekmokdiaaMzAE
import Derived.Test.YtfgpenekmokdiaaMzAN
import Derived.Test.YtfgpenekmokdiaaMzAF
import Derived.Test.YtfgpenekmokdiaaMzAB
import Derived.Test.YtfgpenekmokdiaaMzAM
import Derived.Test.YtfgpenekmokdiaaMzAD
import Derived.Deep.LoopGhost
namespace Go.Proofs.Ytfgpenekmokdiaa
open Go.RowKit

theorem cut0_c (v n : Int) (w : World) (h1 : n ≤ 0) (hn : -1000000 ≤ n) (_ : -9223372036854775808 ≤ v) (_ : v ≤ 9223372036854775807) : Calls Try.prog 33 #[.int .i64 v, .int .i64 n] w fun e w' => CutPost 1 e w w' := by
  go_enter Try.func33, Try.ntmps33
  go_wp2
  go_ret
  exact ⟨0, by omega, rfl, rfl⟩
set_option maxHeartbeats 1000000 in
theorem next0_c (B g T : Nat) (n : Int) (w : World) (ht : TapeOk w B g T) (hT : T ≤ 1000000000) (h1 : n ≤ 0) (hn : -1000000 ≤ n) : Calls Try.prog 22 #[.pointer (some ⟨g, 0, none⟩), .int .i64 n] w (NextPost B g T 1 w) := by
  obtain ⟨A, len, c, at_, zs, hh, hlen, hat, hBg, hmax, hcells⟩ := ht
  unfold maxLen at hmax
  have hHH := Lib.hid hh
  have hlt := block_lt hh
  have c0 : w.cell? ⟨g, 0, none⟩ = some (.slice A len c) := by rw [cell_of_row w g 0 _ _ (0, 0) hh]; rfl
  have c1 : w.cell? ⟨g, 1, none⟩ = some (.int .i64 at_) := by rw [cell_of_row w g 1 _ _ (0, 0) hh]; rfl
  have hfz : w.frozen? ⟨g, 1, none⟩ = false := by simp [World.frozen?, hh]
  clear hh
  have HC := Lib.hid hcells
  by_cases hin : at_ < len
  · obtain ⟨b, o, rfl, _, hc⟩ := hcells (by omega)
    obtain ⟨e1, e2, e3⟩ := hc at_ (by omega)
    have HL := Lib.hid hlen
    clear hc hcells
    generalize zs[at_] = z at *
    clear hlen
    go_enter Try.func22, Try.ntmps22
    go_wp2
    go_quiet (fail)
    go_wp2
    go_quiet (fail)
    go_wp2_with fail
    refine (cut0_c _ _ _ h1 hn e2 e3).mono ?_
    rintro e w1 ⟨r, hr, rfl, rfl⟩
    go_wp2_with fail
    go_ret
    have hts := fun q => tape_step (nq := q) hHH.out HL.out hat hBg hmax HC.out
    exact ⟨r, hr, rfl, (hts _).1, (hts _).2⟩
  · clear hcells
    go_enter Try.func22, Try.ntmps22
    go_wp2
    go_quiet (fail)
    go_wp2_with fail
    refine (cut0_c _ _ _ h1 hn (by omega) (by omega)).mono ?_
    rintro e w1 ⟨r, hr, rfl, rfl⟩
    go_wp2_with fail
    go_ret
    obtain ⟨h2, h3⟩ := tape_step (nq := nq) hHH.out hlen hat hBg hmax HC.out
    exact ⟨r, hr, rfl, h2, h3⟩
/-- The list of numbers that an argument holds. -/
def IntsAt (w : World) (B : Nat) (A : Option Addr) (zs : List Int) : Prop :=
  0 < zs.length → ∃ b o, A = some ⟨b, o, none⟩ ∧ b < B ∧ ∀ j (h : j < zs.length), w.cell? ⟨b, o + j, none⟩ = some (.int .i64 zs[j]) ∧ -9223372036854775808 ≤ zs[j] ∧ zs[j] ≤ 9223372036854775807
theorem tape_new {w w1 : World} {B : Nat} {A : Option Addr} {c : Nat} {zs : List Int} (h : IntsAt w B A zs) (hB : B ≤ w.heap.size) (hb : Below w.heap.size w w1) (hl : zs.length ≤ maxLen) :
    TapeOk (w1.alloc (.cells #[.slice A zs.length c, .int .i64 0] 27)) B w1.heap.size 0 := by
  refine ⟨A, zs.length, c, 0, zs, heap_alloc_new w1 _, rfl, Nat.le_refl _, by have := hb.size; omega, hl, fun hn => ?_⟩
  obtain ⟨b, o, hA, hlt, hc⟩ := h hn
  refine ⟨b, o, hA, hlt, fun j hj => ⟨?_, (hc j hj).2⟩⟩
  have hbb : Below w.heap.size w (w1.alloc (.cells #[.slice A zs.length c, .int .i64 0] 27)) := hb.alloc hb.size _
  rw [hbb.cell (p := ⟨b, o + j, none⟩) (by show b < _; omega)]
  exact (hc j hj).1
theorem IntsAt.keep {w w' : World} {B : Nat} {A : Option Addr} {zs : List Int} (h : IntsAt w B A zs) (hB : B ≤ w.heap.size) (hb : Below w.heap.size w w') : IntsAt w' B A zs := fun hn => by
  obtain ⟨b, o, hA, hlt, hc⟩ := h hn
  exact ⟨b, o, hA, hlt, fun j hj => ⟨(hb.cell (p := ⟨b, o + j, none⟩) (by show b < _; omega)).trans (hc j hj).1, (hc j hj).2⟩⟩
theorem IntsAt.more {w : World} {B B' : Nat} {A : Option Addr} {zs : List Int} (h : IntsAt w B A zs) (hB : B ≤ B') : IntsAt w B' A zs := fun hn => by
  obtain ⟨b, o, hA, hlt, hc⟩ := h hn
  exact ⟨b, o, hA, by omega, hc⟩
end Go.Proofs.Ytfgpenekmokdiaa
namespace Go.Proofs.Ytfgpenekmokdiaa
open Go Go.RowKit Fl

theorem chkG_ok {g : GraphD} {m : Nat} (hg : validG g = true) (hm : m = g.length) : chkG g m = 0 := by unfold chkG; rw [hg, hm]; simp
theorem from_ok (hF : DevFrom) {A B : Option Addr} {c d n v : Nat} {g : GraphD} {s : List Bool} {W : World} (hr : RowsAt W A g) (hs : Holds W B (s.map Bo)) (hg : validG g = true) (hn : g.length = n) (hsl : s.length = n) (hv : v < n) :
    Calls Try.prog 31 #[.slice A n c, .slice B n d, .int .i64 (v : Int)] W fun e w' => ∃ X cx, e = .returned (.tuple #[.slice X n cx, .int .i64 0]) ∧ Holds w' X ((reachL g s v).map Bo) ∧ Below W.heap.size W w' := by
  have h := hF A B c d g s v W hr hs (Sized.valid hg)
  have he : fromE g s.length (v : Int) = 0 := by unfold fromE; rw [if_pos (chkG_ok hg (by omega)), if_pos (by omega)]
  rw [hsl, hn] at h
  rw [hsl] at he
  refine h.mono fun e w' ⟨X, cx, h1, h2, h3⟩ => ⟨X, cx, ?_, ?_, h3⟩
  · rw [h1, he, fromL_ok (by rw [hsl]; exact he), reachL_length, hn]
  · rw [fromL_ok (by rw [hsl]; exact he), Int.toNat_natCast] at h2
    exact h2
theorem reverse_ok (hR : DevReverse) {A : Option Addr} {c n : Nat} {g : GraphD} {W : World} (hr : RowsAt W A g) (hg : validG g = true) (hn : g.length = n) :
    Calls Try.prog 72 #[.slice A n c] W fun e w' => ∃ X cx, e = .returned (.tuple #[.slice X n cx, .int .i64 0]) ∧ RowsAt w' X (revG g) ∧ Below W.heap.size W w' := by
  have h := hR A c g W hr (Sized.valid hg)
  have h1 : revL g = revG g := by unfold revL; rw [if_pos hg]
  have h2 : revE g = 0 := by unfold revE; rw [if_pos hg]
  rw [h1, h2, hn] at h
  refine h.mono fun e w' ⟨X, cx, h3, h4⟩ => ⟨X, cx, ?_, h4⟩
  rw [h3, revG_length, hn]
theorem without_ok (hW : DevWithout) {A B : Option Addr} {c d n : Nat} {g : GraphD} {s : List Bool} {W : World} (hr : RowsAt W A g) (hs : Holds W B (s.map Bo)) (hg : validG g = true) (hn : g.length = n) (hsl : s.length = n) :
    Calls Try.prog 71 #[.slice A n c, .slice B n d] W fun e w' => ∃ X cx, e = .returned (.tuple #[.slice X n cx, .int .i64 0]) ∧ RowsAt w' X (woG g s) ∧ Below W.heap.size W w' := by
  have h := hW A B c d g s W hr hs (Sized.valid hg)
  have h0 := chkG_ok (m := s.length) hg (by omega)
  have h1 : woL g s = woG g s := by unfold woL; rw [if_pos h0]
  rw [h1, h0, hsl, hn] at h
  refine h.mono fun e w' ⟨X, cx, h3, h4⟩ => ⟨X, cx, ?_, h4⟩
  rw [h3, woG_length, hn]
theorem reach_at {g : GraphD} {s : List Bool} {w : World} {X : Option Addr} {a k n : Nat} (hn : g.length = n) (h : Holds w X ((reachL g s a).map Bo)) (hk : k < n) : ∃ b o z, X = some ⟨b, o, none⟩ ∧ w.cell? ⟨b, o + k, none⟩ = some (.bool z) ∧ (z = true ↔ PathG g s a k) := by
  have hk' : k < (reachL g s a).length := by rw [reachL_length]; omega
  obtain ⟨b, o, h1, h2⟩ := h.bo hk'
  refine ⟨b, o, _, h1, h2, ?_⟩
  rw [← atB_at hk']
  exact reachL_at (by omega)
theorem marks_at {s : List Bool} {w : World} {B : Option Addr} {k : Nat} (h : Holds w B (s.map Bo)) (hk : k < s.length) : ∃ b o, B = some ⟨b, o, none⟩ ∧ w.cell? ⟨b, o + k, none⟩ = some (.bool (atB s k)) := by
  obtain ⟨b, o, h1, h2⟩ := h.bo hk
  exact ⟨b, o, h1, by rw [atB_at hk]; exact h2⟩
theorem Still.grown {g : Nat} {a b : World} (h : Still g a.heap.size a b) : a.grownBy b (some g) :=
  ⟨h.os, h.tape, h.output, h.size, fun k hk hne => h.block k hk (fun e => hne (by rw [e]))⟩
end Go.Proofs.Ytfgpenekmokdiaa
namespace Go.Proofs.Ytfgpenekmokdiaa
open Go Go.RowKit Fl

/-- The list f 0, f 1, .. of n elements. -/
def mapR {α : Type} (n : Nat) (f : Nat → α) : List α := (List.range n).map f
theorem mapR_length {α : Type} (n : Nat) (f : Nat → α) : (mapR n f).length = n := by simp [mapR]
theorem mapR_at {α : Type} {n k : Nat} {f : Nat → α} (h : k < (mapR n f).length) : (mapR n f)[k] = f k := by simp [mapR]
theorem mapR_congr {α : Type} {n : Nat} {f f' : Nat → α} (h : ∀ i, i < n → f i = f' i) : mapR n f = mapR n f' := by
  unfold mapR
  exact List.map_congr_left fun i hi => h i (List.mem_range.1 hi)
theorem mapR_set {α : Type} {n k : Nat} {f f' : Nat → α} {z : α} (hz : f' k = z) (hf : ∀ i, i ≠ k → f' i = f i) : (mapR n f).set k z = mapR n f' := by
  refine List.ext_getElem (by simp [mapR]) fun i h1 h2 => ?_
  rw [List.getElem_set]
  by_cases h : k = i
  · subst h; rw [if_pos rfl, mapR_at, hz]
  · rw [if_neg h, mapR_at, mapR_at, hf i (fun e => h e.symm)]
theorem mapR_same {α : Type} (n : Nat) (z : α) : mapR n (fun _ => z) = List.replicate n z := by simp [mapR, List.map_const']
theorem reach_in {g : GraphD} {s : List Bool} {w : World} {b o a k : Nat} (h : Holds w (some ⟨b, o, none⟩) ((reachL g s a).map Bo)) (hk : k < g.length) : ∃ z, w.cell? ⟨b, o + k, none⟩ = some (.bool z) ∧ (z = true ↔ PathG g s a k) := by
  obtain ⟨b', o', z, hA, h1, h2⟩ := reach_at rfl h hk
  injection hA with hA
  injection hA with e1 e2
  subst e1 e2
  exact ⟨z, h1, h2⟩
/-- out, when vertices before v have their names, and v has z. -/
noncomputable def nmF (g : GraphD) (s : List Bool) (v : Nat) (z : Int) (x : Nat) : Int := if x < v then nameOf g s x else if x = v then z else 0
theorem nmF_start (g : GraphD) (s : List Bool) : mapR g.length (nmF g s 0 0) = List.replicate g.length 0 := by
  rw [← mapR_same]
  exact mapR_congr fun i _ => by unfold nmF; rw [if_neg (by omega)]; split <;> rfl
theorem nmF_put {g : GraphD} {s : List Bool} {v : Nat} {z z' : Int} : (mapR g.length (nmF g s v z)).set v z' = mapR g.length (nmF g s v z') :=
  mapR_set (by unfold nmF; rw [if_neg (by omega), if_pos rfl]) fun i hi => by unfold nmF; rw [if_neg hi, if_neg hi]
theorem nmF_next {g : GraphD} {s : List Bool} {v : Nat} {z : Int} (hz : z = nameOf g s v) : mapR g.length (nmF g s v z) = mapR g.length (nmF g s (v + 1) 0) := mapR_congr fun i _ => by
  unfold nmF
  by_cases h1 : i < v
  · rw [if_pos h1, if_pos (by omega)]
  · by_cases h2 : i = v
    · subst h2; rw [if_neg h1, if_pos rfl, if_pos (by omega), hz]
    · rw [if_neg h1, if_neg h2, if_neg (by omega)]; split <;> rfl
theorem nmF_end (g : GraphD) (s : List Bool) : mapR g.length (nmF g s g.length 0) = namesL g s := by
  unfold namesL mapR
  exact List.map_congr_left fun i hi => by unfold nmF; rw [if_pos (List.mem_range.1 hi)]
/-- What is known of z, the name of v so far, when the vertices before k are tried. -/
def NmRel (g : GraphD) (s : List Bool) (v k : Nat) (z : Int) : Prop := (z = -1 ∧ k ≤ v + 1 ∧ ∀ u, u < k → ¬ both g s v u) ∨ (z = nameOf g s v ∧ 0 ≤ z)
theorem NmRel.start (g : GraphD) (s : List Bool) (v : Nat) : NmRel g s v 0 (-1) := .inl ⟨rfl, by omega, fun u hu => by omega⟩
theorem NmRel.no {g : GraphD} {s : List Bool} {v k : Nat} (h : NmRel g s v k (-1)) (hk : k ≤ v) (hn : ¬ both g s v k) : NmRel g s v (k + 1) (-1) := by
  rcases h with ⟨_, h1, h2⟩ | ⟨h1, h2⟩
  · refine .inl ⟨rfl, by omega, fun u hu => ?_⟩
    rcases Nat.lt_succ_iff_lt_or_eq.1 hu with h | rfl
    · exact h2 u h
    · exact hn
  · omega
theorem NmRel.yes {g : GraphD} {s : List Bool} {v k : Nat} (h : NmRel g s v k (-1)) (hy : both g s v k) : NmRel g s v (k + 1) k := by
  rcases h with ⟨_, h1, h2⟩ | ⟨h1, h2⟩
  · refine .inr ⟨?_, by omega⟩
    rcases name_cases g s v with ⟨_, h3⟩ | ⟨w, h3, _, h4, h5⟩
    · exact absurd hy.1.left h3
    · rw [h3]
      have h6 : ¬ w < k := fun hl => h2 w hl h4
      have h7 : ¬ k < w := fun hl => h5 k hl hy
      omega
  · omega
theorem NmRel.done {g : GraphD} {s : List Bool} {v k : Nat} {z : Int} (h : NmRel g s v k z) (hd : ¬ (k ≤ v ∧ z < 0)) : z = nameOf g s v := by
  rcases h with ⟨h0, h1, h2⟩ | ⟨h1, h2⟩
  · rcases name_cases g s v with ⟨h3, _⟩ | ⟨w, h3, h4, h5, _⟩
    · rw [h0, h3]
    · exact absurd h5 (h2 w (by omega))
  · exact h1
def IntsPost (w : World) (l : List Int) (k : Int) (e : Ending) (w' : World) : Prop := ∃ u, e = .returned (.tuple #[u, .int .i64 k]) ∧ w'.ownsRow w.heap.size 3 1 u l.length (l.map Iv) ∧ Below w.heap.size w w'
open Classical in
noncomputable def nmL (g : GraphD) (s : List Bool) : List Int := if chkG g s.length = 0 then namesL g s else []
end Go.Proofs.Ytfgpenekmokdiaa
namespace Go.Proofs.Ytfgpenekmokdiaa
open Go Go.RowKit Fl

open Classical in
noncomputable def ordL (g : GraphD) (s : List Bool) : List Int := if chkG g s.length = 0 then orderL g s else []
/-- The least candidate from j on. -/
def BestRel (g : GraphD) (s : List Bool) (L : List Int) (j : Nat) (z : Int) : Prop :=
  (z = -1 ∧ ∀ u, j ≤ u → u < g.length → cand g s L u = false) ∨ ∃ a : Nat, z = a ∧ a < g.length ∧ cand g s L a = true ∧ ∀ u, j ≤ u → u < a → cand g s L u = false
theorem BestRel.start (g : GraphD) (s : List Bool) (L : List Int) : BestRel g s L g.length (-1) := .inl ⟨rfl, fun u h1 h2 => by omega⟩
theorem BestRel.no {g : GraphD} {s : List Bool} {L : List Int} {j : Nat} {z : Int} (h : BestRel g s L (j + 1) z) (hc : cand g s L j = false) : BestRel g s L j z := by
  rcases h with ⟨h1, h2⟩ | ⟨a, h1, h2, h3, h4⟩
  · refine .inl ⟨h1, fun u hu hn => ?_⟩
    rcases Nat.eq_or_lt_of_le hu with rfl | h
    · exact hc
    · exact h2 u h hn
  · refine .inr ⟨a, h1, h2, h3, fun u hu hn => ?_⟩
    rcases Nat.eq_or_lt_of_le hu with rfl | h
    · exact hc
    · exact h4 u h hn
theorem BestRel.yes {g : GraphD} {s : List Bool} {L : List Int} {j : Nat} (hj : j < g.length) (hc : cand g s L j = true) : BestRel g s L j j := .inr ⟨j, rfl, hj, hc, fun u h1 h2 => by omega⟩
theorem BestRel.low {g : GraphD} {s : List Bool} {L : List Int} {j : Nat} {z : Int} (h : BestRel g s L j z) : -1 ≤ z ∧ z < 1000 + g.length := by
  rcases h with ⟨h1, _⟩ | ⟨a, h1, h2, _⟩ <;> omega
theorem BestRel.best {g : GraphD} {s : List Bool} {L : List Int} {z : Int} (h : BestRel g s L 0 z) : (z = -1 ∧ best g s L = none) ∨ ∃ a : Nat, z = a ∧ best g s L = some a := by
  rcases h with ⟨h1, h2⟩ | ⟨a, h1, h2, h3, h4⟩
  · refine .inl ⟨h1, ?_⟩
    rcases e : Fl.best g s L with _ | k
    · rfl
    · obtain ⟨h3, h4⟩ := best_some e
      rw [h2 k (Nat.zero_le _) h3] at h4
      cases h4
  · exact .inr ⟨a, h1, leastF_is h2 h3 fun j hj => h4 j (Nat.zero_le _) hj⟩
theorem cand_no1 {g : GraphD} {s : List Bool} {L : List Int} {v : Nat} (h : nameOf g s v ≠ v) : cand g s L v = false := by
  rcases e : cand g s L v with _ | _
  · rfl
  · exact absurd (cand_iff.1 e).1 h
theorem cand_no2 {g : GraphD} {s : List Bool} {L : List Int} {v : Nat} (h : (v : Int) ∈ L) : cand g s L v = false := by
  rcases e : cand g s L v with _ | _
  · rfl
  · exact absurd h (cand_iff.1 e).2.1
/-- None of the names before k that are left leads to v. -/
def NoneTo (g : GraphD) (s : List Bool) (L : List Int) (v k : Nat) : Prop := ∀ u : Nat, u < k → nameOf g s u = u → u ≠ v → (u : Int) ∉ L → ¬ PathG g s u v
theorem NoneTo.skip {g : GraphD} {s : List Bool} {L : List Int} {v k : Nat} {b : Bool} (h : b = true ↔ NoneTo g s L v k) (hn : nameOf g s k = k → k ≠ v → (k : Int) ∉ L → ¬ PathG g s k v) : b = true ↔ NoneTo g s L v (k + 1) := by
  rw [h]
  constructor
  · intro h u hu
    rcases Nat.lt_succ_iff_lt_or_eq.1 hu with h1 | rfl
    · exact h u h1
    · exact hn
  · exact fun h u hu => h u (by omega)
theorem NoneTo.hit {g : GraphD} {s : List Bool} {L : List Int} {v k : Nat} (h1 : nameOf g s k = k) (h2 : k ≠ v) (h3 : (k : Int) ∉ L) (h4 : PathG g s k v) : false = true ↔ NoneTo g s L v (k + 1) :=
  ⟨fun h => by (cases h), fun h => absurd h4 (h k (by omega) h1 h2 h3)⟩
theorem ints_in {w : World} {b o k : Nat} {l : List Int} (h : Holds w (some ⟨b, o, none⟩) (l.map Iv)) (hk : k < l.length) : w.cell? ⟨b, o + k, none⟩ = some (.int .i64 l[k]) := by
  obtain ⟨b', o', hA, h1⟩ := h.iv hk
  injection hA with hA
  injection hA with e1 e2
  subst e1 e2
  exact h1
end Go.Proofs.Ytfgpenekmokdiaa
namespace Go.Proofs.Ytfgpenekmokdiaa
open Go Go.RowKit Fl

open Classical in
noncomputable def quoL (g : GraphD) (s : List Bool) : GraphD := if chkG g s.length = 0 then quotL g s else []
/-- z comes to row a by the edges of the vertices before v, and the first m of v's. -/
def qMem (g : GraphD) (s : List Bool) (v m a : Nat) (z : Int) : Prop := ∃ (u j : Nat) (x : Nat) (h : j < (rowG g u).length), (u < v ∨ (u = v ∧ j < m)) ∧ (rowG g u)[j] = (x : Int) ∧ nameOf g s u = a ∧ nameOf g s x = z ∧ 0 ≤ z ∧ z ≠ a
open Classical in
noncomputable def qF (g : GraphD) (s : List Bool) (v m a : Nat) : List Int := ((List.range g.length).filter (fun (b : Nat) => decide (qMem g s v m a b))).map (fun (b : Nat) => (b : Int))
theorem qF_mem {g : GraphD} {s : List Bool} {v m a : Nat} {z : Int} : z ∈ qF g s v m a ↔ qMem g s v m a z := by
  classical
  unfold qF
  rw [List.mem_map]
  constructor
  · rintro ⟨b, hb, rfl⟩
    have := (List.mem_filter.1 hb).2
    simpa using this
  · intro h
    have h0 := h
    obtain ⟨u, j, x, hj, _, _, _, hx, hz, _⟩ := h
    obtain ⟨b, rfl⟩ := Int.eq_ofNat_of_zero_le hz
    exact ⟨b, List.mem_filter.2 ⟨List.mem_range.2 (name_name hx).2.1, by simpa using h0⟩, rfl⟩
theorem qF_sorted (g : GraphD) (s : List Bool) (v m a : Nat) : (qF g s v m a).Pairwise (· < ·) := by
  unfold qF
  rw [List.pairwise_map]
  refine List.Pairwise.imp (fun h => ?_) (List.Pairwise.filter _ (List.pairwise_lt_range))
  omega
theorem qF_short (g : GraphD) (s : List Bool) (v m a : Nat) : (qF g s v m a).length ≤ g.length := by
  unfold qF
  rw [List.length_map]
  exact Nat.le_trans (List.length_filter_le _ _) (by simp)
theorem qF_ext {g : GraphD} {s : List Bool} {v m v' m' a : Nat} (h : ∀ z, qMem g s v m a z ↔ qMem g s v' m' a z) : qF g s v m a = qF g s v' m' a :=
  sorted_ext (qF_sorted _ _ _ _ _) (qF_sorted _ _ _ _ _) fun z => by rw [qF_mem, qF_mem]; exact h z
theorem qF_start (g : GraphD) (s : List Bool) : rowsF g.length (qF g s 0 0) = List.replicate g.length [] := by
  rw [← rowsF_nil]
  refine rowsF_congr fun i _ => ?_
  refine List.eq_nil_iff_forall_not_mem.2 fun z hz => ?_
  obtain ⟨u, j, x, hj, h, _⟩ := qF_mem.1 hz
  omega
theorem qF_next {g : GraphD} {s : List Bool} {v m : Nat} (hm : (rowG g v).length ≤ m) : rowsF g.length (qF g s v m) = rowsF g.length (qF g s (v + 1) 0) := rowsF_congr fun i _ => qF_ext fun z => by
  constructor
  · rintro ⟨u, j, x, hj, h, h2⟩
    exact ⟨u, j, x, hj, by rcases h with h | ⟨rfl, _⟩ <;> omega, h2⟩
  · rintro ⟨u, j, x, hj, h, h2⟩
    refine ⟨u, j, x, hj, ?_, h2⟩
    rcases h with h | ⟨_, h⟩
    · rcases Nat.lt_succ_iff_lt_or_eq.1 h with h | rfl
      · exact .inl h
      · exact .inr ⟨rfl, by omega⟩
    · omega
theorem qF_end (g : GraphD) (s : List Bool) : rowsF g.length (qF g s g.length 0) = quotL g s := by
  unfold quotL rowsF
  refine List.map_congr_left fun a _ => ?_
  refine sorted_ext (qF_sorted _ _ _ _ _) (quotRow_sorted _ _ _) fun z => ?_
  rw [qF_mem, quotRow_mem]
  constructor
  · rintro ⟨u, j, x, hj, _, h1, h2⟩
    exact ⟨u, x, by unfold EdgeG; rw [← h1]; exact List.getElem_mem hj, h2⟩
  · rintro ⟨u, x, he, h2⟩
    unfold EdgeG at he
    obtain ⟨j, hj, e⟩ := List.mem_iff_getElem.1 he
    refine ⟨u, j, x, hj, .inl ?_, e, h2⟩
    rcases Nat.lt_or_ge u g.length with h | h
    · exact h
    · rw [rowG_out h] at hj; simp at hj
theorem qMem_succ {g : GraphD} {s : List Bool} {v m y a : Nat} {z : Int} (hm : m < (rowG g v).length) (hy : (rowG g v)[m] = (y : Int)) : qMem g s v (m + 1) a z ↔ qMem g s v m a z ∨ (nameOf g s v = a ∧ nameOf g s y = z ∧ 0 ≤ z ∧ z ≠ a) := by
  constructor
  · rintro ⟨u, j, x, hj, h, h1, h2⟩
    rcases h with h | ⟨rfl, h⟩
    · exact .inl ⟨u, j, x, hj, .inl h, h1, h2⟩
    · rcases Nat.lt_succ_iff_lt_or_eq.1 h with h | rfl
      · exact .inl ⟨u, j, x, hj, .inr ⟨rfl, h⟩, h1, h2⟩
      · right
        have : x = y := by omega
        subst this
        exact h2
  · rintro (⟨u, j, x, hj, h, h2⟩ | h)
    · exact ⟨u, j, x, hj, by omega, h2⟩
    · exact ⟨v, m, y, hm, .inr ⟨rfl, by omega⟩, hy, h⟩
/-- An edge that adds nothing. -/
theorem qF_skip {g : GraphD} {s : List Bool} {v m y : Nat} (hm : m < (rowG g v).length) (hy : (rowG g v)[m] = (y : Int)) (hn : ∀ a : Nat, nameOf g s v = a → 0 ≤ nameOf g s y → nameOf g s y ≠ a → nameOf g s y ∈ qF g s v m a) : rowsF g.length (qF g s v (m + 1)) = rowsF g.length (qF g s v m) := rowsF_congr fun a _ => qF_ext fun z => by
  rw [qMem_succ hm hy]
  constructor
  · rintro (h | ⟨h1, rfl, h3, h4⟩)
    · exact h
    · exact qF_mem.1 (hn a h1 h3 h4)
  · exact .inl
/-- An edge that adds a name. -/
theorem qF_put {g : GraphD} {s : List Bool} {v m y a : Nat} {z : Int} (hm : m < (rowG g v).length) (hy : (rowG g v)[m] = (y : Int)) (ha : nameOf g s v = a) (hz : nameOf g s y = z) (h0 : 0 ≤ z) (hne : z ≠ a) (hno : z ∉ qF g s v m a) : (rowsF g.length (qF g s v m)).set a (insL (qF g s v m a) z) = rowsF g.length (qF g s v (m + 1)) := by
  refine rowsF_set ?_ fun i hi => qF_ext fun x => ?_
  · refine sorted_ext (qF_sorted _ _ _ _ _) (insL_sorted (qF_sorted _ _ _ _ _) hno) fun x => ?_
    rw [qF_mem, qMem_succ hm hy, insL_mem, qF_mem]
    constructor
    · rintro (h | ⟨_, h1, _⟩)
      · exact .inr h
      · exact .inl (by rw [← h1, hz])
    · rintro (rfl | h)
      · exact .inr ⟨ha, hz, h0, hne⟩
      · exact .inl h
  · rw [qMem_succ hm hy]
    constructor
    · rintro (h | ⟨h1, _⟩)
      · exact h
      · omega
    · exact .inl
theorem own_lo {w : World} {base base' n : Nat} {e : TypeId} {v : Value} {xs : List Value} (h : w.ownsRow base e 1 v n xs) (hb : base' ≤ base) : w.ownsRow base' e 1 v n xs := by
  obtain ⟨h1, h2⟩ := h
  refine ⟨h1, ?_⟩
  rcases h2 with h2 | ⟨g, cap, cur, hv, hg, hr⟩
  · exact .inl h2
  · exact .inr ⟨g, cap, cur, hv, Nat.le_trans hb hg, hr⟩
theorem RowsOwn.putN {w : World} {base q cap k n : Nat} {g : GraphD} {u : Value} {r : List Int} (hn : g.length = n) (h : RowsOwn w base (.slice (some ⟨q, 0, none⟩) n cap) g) (hr : w.ownsRow base 3 1 u r.length (r.map Iv)) : RowsOwn (w.setCell ⟨q, k, none⟩ u) base (.slice (some ⟨q, 0, none⟩) n cap) (g.set k r) := by
  subst hn
  exact h.put hr rfl
theorem RowsOwn.low {w : World} {base base' : Nat} {v : Value} {g : GraphD} (h : RowsOwn w base v g) (hb : base' ≤ base) : RowsOwn w base' v g := by
  obtain ⟨vs, h1, h2, h3⟩ := h
  exact ⟨vs, h1, own_lo h2 hb, fun k u r hk hr => own_lo (h3 k u r hk hr) hb⟩
theorem rowsO_nil (w : World) (base : Nat) : RowsOwn w base (.slice none 0 0) [] := ⟨[], rfl, World.ownsRow_nil _ _ _ _, fun k u r h => by simp at h⟩
/-- What Quotient returns. -/
def RowsPost (w : World) (l : GraphD) (k : Int) (e : Ending) (w' : World) : Prop := ∃ u, e = .returned (.tuple #[u, .int .i64 k]) ∧ RowsOwn w' w.heap.size u l ∧ Below w.heap.size w w'
end Go.Proofs.Ytfgpenekmokdiaa
