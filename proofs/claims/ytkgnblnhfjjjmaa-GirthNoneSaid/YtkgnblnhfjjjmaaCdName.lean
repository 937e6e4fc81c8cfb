/- The names that a reversed search gives, one component after another. No program is named here. -/
import Derived.Test.YtkgnblnhfjjjmaaMjB
import Derived.Test.YtkgnblnhfjjjmaaCdPure
import Derived.Test.YtkgnblnhfjjjmaaMjC
import Derived.Lib.Slices
namespace Go.Proofs.Ytkgnblnhfjjjmaa
open Go Go.RowKit Fl

theorem atB_pad' {s : List Bool} (x : Nat) : atB (padM s) x = atB s x := by
  unfold atB padM
  rw [List.getD_eq_getElem?_getD, List.getD_eq_getElem?_getD, List.getElem?_append]
  split
  · rfl
  · rename_i h
    rw [List.getElem?_eq_none (l := s) (by omega), List.getElem?_replicate]
    split <;> rfl
def setAll (ns : List Int) (l : List Nat) (z : Int) : List Int := l.foldl (fun a x => a.set x z) ns
theorem setAll_length (l : List Nat) (z : Int) : ∀ ns : List Int, (setAll ns l z).length = ns.length := by
  induction l with
  | nil => intro ns; rfl
  | cons y l ih => intro ns; show (setAll (ns.set y z) l z).length = _; rw [ih, List.length_set]
theorem setAll_step {ns : List Int} {l : List Nat} {z : Int} {k : Nat} (h : k < l.length) : setAll ns (l.take (k + 1)) z = (setAll ns (l.take k) z).set l[k] z := by
  unfold setAll
  rw [List.take_succ_eq_append_getElem h, List.foldl_append]
  rfl
theorem setAll_mapR {n : Nat} {z : Int} : ∀ {l : List Nat} {f : Nat → Int}, setAll (mapR n f) l z = mapR n (fun x => if x ∈ l then z else f x)
  | [], f => by
    show mapR n f = _
    exact mapR_congr fun i _ => by simp
  | y :: l, f => by
    show setAll ((mapR n f).set y z) l z = _
    rw [mapR_set (f' := fun x => if x = y then z else f x) (by simp) (fun i hi => by simp [hi]), setAll_mapR]
    refine mapR_congr fun i _ => ?_
    by_cases h1 : i ∈ l
    · simp [h1]
    · by_cases h2 : i = y <;> simp [h1, h2]
theorem foldl_min : ∀ (l : List Int) (a : Int), (l.foldl min a = a ∨ l.foldl min a ∈ l) ∧ l.foldl min a ≤ a ∧ ∀ x ∈ l, l.foldl min a ≤ x
  | [], a => by simp
  | y :: l, a => by
    obtain ⟨h1, h2, h3⟩ := foldl_min l (min a y)
    show ((l.foldl min (min a y) = a ∨ _) ∧ l.foldl min (min a y) ≤ a ∧ ∀ x ∈ y :: l, l.foldl min (min a y) ≤ x)
    refine ⟨?_, by omega, fun x hx => ?_⟩
    · rcases h1 with h1 | h1
      · by_cases h : a ≤ y
        · left; rw [h1]; omega
        · right; show l.foldl min (min a y) ∈ y :: l; rw [h1, show min a y = y by omega]; simp
      · right; exact List.mem_cons_of_mem _ h1
    · rcases List.mem_cons.1 hx with rfl | hx
      · omega
      · exact h3 x hx
theorem minOf_mem {l : List Int} (h : l ≠ []) : Lib.minOf l ∈ l ∧ ∀ x ∈ l, Lib.minOf l ≤ x := by
  cases l with
  | nil => exact absurd rfl h
  | cons y l =>
    obtain ⟨h1, h2, h3⟩ := foldl_min (y :: l) y
    refine ⟨?_, h3⟩
    rcases h1 with h1 | h1
    · show (y :: l).foldl min y ∈ _
      rw [h1]; simp
    · exact h1
theorem minOf_name {g : GraphD} {s : List Bool} {v : Nat} {l : List Nat} (hv : v ∈ l) (h : ∀ x, x ∈ l ↔ both g s v x) : Lib.minOf (l.map fun x : Nat => (x : Int)) = nameOf g s v := by
  have hne : (l.map fun x : Nat => (x : Int)) ≠ [] := by
    intro e
    rw [List.map_eq_nil_iff] at e
    subst e
    simp at hv
  obtain ⟨h1, h2⟩ := minOf_mem hne
  obtain ⟨a, ha, e⟩ := List.mem_map.1 h1
  have hself := (h v).1 hv
  obtain ⟨b, hb, _, hb1, hb2⟩ := name_open hself.1.left.1 hself.1.left.2
  have hbl : b ∈ l := (h b).2 hb1
  have h3 := h2 b (List.mem_map.2 ⟨b, hbl, rfl⟩)
  have h4 : ¬ a < b := fun hl => hb2 a hl ((h a).1 ha)
  rw [hb]
  omega
/-- Which names are known when the vertices P are done. -/
structure NF (g : GraphD) (s : List Bool) (P : List Nat) (M : List Bool) (ns : List Int) : Prop where
  sh : ∀ x, atB s x = true → atB M x = true
  un : ∀ x y, both g s x y → atB M x = true → atB M y = true
  pr : ∀ x ∈ P, atB M x = true
  ns : ns = mapR g.length (fun x => if atB M x then nameOf g s x else -1)
theorem NF.start (g : GraphD) (s : List Bool) : NF g s [] (padM s) (List.replicate g.length (-1)) := by
  refine ⟨fun x h => by rw [atB_pad']; exact h, fun x y h e => ?_, by simp, ?_⟩
  · rw [atB_pad', h.1.left.2] at e; cases e
  · rw [← mapR_same]
    refine mapR_congr fun i _ => ?_
    rw [atB_pad']
    split
    · rename_i h
      rw [name_shut fun e => by rw [h] at e; cases e.2]
    · rfl
theorem NF.skip {g : GraphD} {s : List Bool} {P : List Nat} {M : List Bool} {ns : List Int} {v : Nat} (h : NF g s P M ns) (hv : atB M v = true) : NF g s (P ++ [v]) M ns :=
  ⟨h.sh, h.un, fun x hx => by
    rcases List.mem_append.1 hx with hx | hx
    · exact h.pr x hx
    · simp at hx; subst hx; exact hv, h.ns⟩
theorem NF.comp {g : GraphD} {s M M' : List Bool} {L L1 l P : List Nat} {ns : List Int} {v : Nat} (h : NF g s P M ns) (hg : validG g = true) (hL : Dfs g s L []) (hall : ∀ x, x < g.length → atB s x = false → x ∈ L) (hsp : L = L1 ++ v :: P.reverse)
    (hv : atB M v = false) (hl : Dfs (revG g) M l []) (hlv : v ∈ l) (hp : ∀ x ∈ l, PathG (revG g) M v x) (hM' : ∀ x, atB M' x = true ↔ atB M x = true ∨ x ∈ l) : NF g s (P ++ [v]) M' (setAll ns l (Lib.minOf (l.map fun x : Nat => (x : Int)))) := by
  have key := kos_comp hg hL hall hsp h.sh h.un (fun x hx => h.pr x (by simpa using hx)) hv hl hlv hp
  have hname := minOf_name hlv key
  refine ⟨fun x hx => (hM' x).2 (.inl (h.sh x hx)), fun x y hb e => ?_, fun x hx => ?_, ?_⟩
  · rcases (hM' x).1 e with e | e
    · exact (hM' y).2 (.inl (h.un x y hb e))
    · exact (hM' y).2 (.inr ((key y).2 (((key x).1 e).trans hb)))
  · rcases List.mem_append.1 hx with hx | hx
    · exact (hM' x).2 (.inl (h.pr x hx))
    · simp at hx; subst hx; exact (hM' x).2 (.inr hlv)
  · rw [hname, h.ns, setAll_mapR]
    refine mapR_congr fun i _ => ?_
    by_cases hi : i ∈ l
    · rw [if_pos hi, if_pos ((hM' i).2 (.inr hi)), name_eq ((key i).1 hi)]
    · rw [if_neg hi]
      by_cases hm : atB M i = true
      · rw [if_pos hm, if_pos ((hM' i).2 (.inl hm))]
      · rw [if_neg hm, if_neg (fun e => by rcases (hM' i).1 e with e | e <;> contradiction)]
theorem NF.all {g : GraphD} {s : List Bool} {P M : _} {ns : List Int} (h : NF g s P M ns) (hall : ∀ x, x < g.length → atB s x = false → x ∈ P) : ns = namesL g s := by
  rw [h.ns]
  unfold namesL mapR
  refine List.map_congr_left fun i hi => ?_
  have hi := List.mem_range.1 hi
  by_cases hm : atB M i = true
  · rw [if_pos hm]
  · rw [if_neg hm, name_shut fun e => hm (h.pr i (hall i e.1 e.2))]
theorem names_own (g : GraphD) (s : List Bool) : namesL (woG g s) s = namesL g s := by
  unfold namesL
  rw [woG_length]
  refine List.map_congr_left fun i _ => ?_
  unfold nameOf
  congr 1
  congr 1
  funext w
  exact decide_eq_decide.2 both_own
end Go.Proofs.Ytkgnblnhfjjjmaa
