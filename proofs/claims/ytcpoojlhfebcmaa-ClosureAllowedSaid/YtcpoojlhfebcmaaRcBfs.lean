/- The search through a graph by marks and a queue: what holds all the time. No program is named here. -/
import Derived.Test.YtcpoojlhfebcmaaRcSpec
namespace Go.Proofs.Ytcpoojlhfebcmaa.Fl

def closedAt (g : GraphD) (s M : List Bool) (u : Nat) : Prop := ∀ y, EdgeG g u y → y < g.length → atB s y = false → atB M y = true
structure BfsInv (g : GraphD) (s : List Bool) (v : Nat) (M : List Bool) (Q : List Int) : Prop where
  len : M.length = g.length
  start : atB M v = true
  sound : ∀ u, atB M u = true → PathG g s v u
  queue : ∀ q ∈ Q, ∃ u : Nat, q = u ∧ u < g.length ∧ atB M u = true
  done : ∀ u, atB M u = true → (u : Int) ∈ Q ∨ closedAt g s M u
/-- In the midst of vertex x: m elements of its row are through. -/
structure BfsMid (g : GraphD) (s : List Bool) (v : Nat) (M : List Bool) (Q : List Int) (x m : Nat) : Prop where
  len : M.length = g.length
  start : atB M v = true
  sound : ∀ u, atB M u = true → PathG g s v u
  queue : ∀ q ∈ Q, ∃ u : Nat, q = u ∧ u < g.length ∧ atB M u = true
  here : atB M x = true
  done : ∀ u, atB M u = true → (u : Int) ∈ Q ∨ u = x ∨ closedAt g s M u
  part : ∀ j (h : j < (rowG g x).length), j < m → ∀ y : Nat, (rowG g x)[j] = y → y < g.length → atB s y = false → atB M y = true
def unm (M : List Bool) : Nat := M.count false
theorem atB_set {M : List Bool} {u y : Nat} (hy : y < M.length) : atB (M.set y true) u = if u = y then true else atB M u := by
  unfold atB
  rw [List.getD_eq_getElem?_getD, List.getElem?_set, List.getD_eq_getElem?_getD]
  by_cases e : u = y
  · subst e; simp [hy]
  · rw [if_neg (fun h => e h.symm), if_neg e]
theorem unm_set : ∀ {M : List Bool} {y : Nat}, y < M.length → atB M y = false → unm (M.set y true) + 1 = unm M
  | [], y, h, _ => by simp at h
  | b :: M, 0, _, hb => by
    have e : b = false := by simpa [atB] using hb
    subst e
    simp [unm]
  | b :: M, y + 1, h, hb => by
    have ih := unm_set (M := M) (y := y) (by simpa using h) (by simpa [atB] using hb)
    unfold unm at ih ⊢
    rw [List.set_cons_succ, List.count_cons, List.count_cons]
    omega
theorem bfs_start {g : GraphD} {s : List Bool} {v : Nat} (hv : v < g.length) (hs : atB s v = false) : BfsInv g s v ((List.replicate g.length false).set v true) [(v : Int)] := by
  have key : ∀ u, atB ((List.replicate g.length false).set v true) u = if u = v then true else false := fun u => by
    rw [atB_set (by simpa using hv)]
    by_cases e : u = v
    · rw [if_pos e, if_pos e]
    · rw [if_neg e, if_neg e]
      unfold atB
      rw [List.getD_eq_getElem?_getD, List.getElem?_replicate]
      split <;> rfl
  refine ⟨by simp, by rw [key, if_pos rfl], fun u hu => ?_, fun q hq => ?_, fun u hu => ?_⟩
  · rw [key] at hu
    split at hu
    · rename_i e; subst e; exact .refl hv hs
    · cases hu
  · simp at hq
    exact ⟨v, hq, hv, by rw [key, if_pos rfl]⟩
  · rw [key] at hu
    split at hu
    · rename_i e; subst e; exact .inl (by simp)
    · cases hu
theorem BfsInv.pop {g : GraphD} {s : List Bool} {v : Nat} {M : List Bool} {x : Int} {Q : List Int} (h : BfsInv g s v M (x :: Q)) : ∃ u : Nat, x = u ∧ u < g.length ∧ BfsMid g s v M Q u 0 := by
  obtain ⟨u, rfl, hu, hm⟩ := h.queue x (by simp)
  refine ⟨u, rfl, hu, h.len, h.start, h.sound, fun q hq => h.queue q (by simp [hq]), hm, fun z hz => ?_, fun j _ hj => by omega⟩
  rcases h.done z hz with h1 | h1
  · rcases List.mem_cons.1 h1 with h2 | h2
    · exact .inr (.inl (by omega))
    · exact .inl h2
  · exact .inr (.inr h1)
theorem BfsMid.skip {g : GraphD} {s : List Bool} {v : Nat} {M : List Bool} {Q : List Int} {x m : Nat} (h : BfsMid g s v M Q x m) (hs : ∀ (h : m < (rowG g x).length) (y : Nat), (rowG g x)[m] = y → atB s y = true ∨ atB M y = true) : BfsMid g s v M Q x (m + 1) := by
  refine ⟨h.len, h.start, h.sound, h.queue, h.here, h.done, fun j hj hjm y hy hyl hys => ?_⟩
  rcases Nat.lt_succ_iff_lt_or_eq.1 hjm with h' | rfl
  · exact h.part j hj h' y hy hyl hys
  · rcases hs hj y hy with h1 | h1
    · rw [h1] at hys; cases hys
    · exact h1
theorem BfsMid.mark {g : GraphD} {s : List Bool} {v : Nat} {M : List Bool} {Q : List Int} {x m y : Nat} (h : BfsMid g s v M Q x m) (hm : m < (rowG g x).length) (hy : (rowG g x)[m] = y) (hyl : y < g.length) (hys : atB s y = false) : BfsMid g s v (M.set y true) (Q ++ [(y : Int)]) x (m + 1) := by
  have hyM : y < M.length := by rw [h.len]; exact hyl
  have mono : ∀ u, atB M u = true → atB (M.set y true) u = true := fun u hu => by
    rw [atB_set hyM]; split
    · rfl
    · exact hu
  have hedge : EdgeG g x y := by unfold EdgeG; rw [← hy]; exact List.getElem_mem hm
  refine ⟨by simpa using h.len, mono _ h.start, fun u hu => ?_, fun q hq => ?_, mono _ h.here, fun u hu => ?_, fun j hj hjm z hz hzl hzs => ?_⟩
  · rw [atB_set hyM] at hu
    split at hu
    · rename_i e; subst e
      exact .step (h.sound x h.here) hedge hyl hys
    · exact h.sound u hu
  · rcases List.mem_append.1 hq with hq | hq
    · obtain ⟨u, h1, h2, h3⟩ := h.queue q hq
      exact ⟨u, h1, h2, mono _ h3⟩
    · simp at hq
      exact ⟨y, hq, hyl, by rw [atB_set hyM, if_pos rfl]⟩
  · rw [atB_set hyM] at hu
    split at hu
    · rename_i e; subst e; exact .inl (by simp)
    · rcases h.done u hu with h1 | h1 | h1
      · exact .inl (by simp [h1])
      · exact .inr (.inl h1)
      · exact .inr (.inr fun z hz hzl hzs => mono _ (h1 z hz hzl hzs))
  · rcases Nat.lt_succ_iff_lt_or_eq.1 hjm with h' | rfl
    · exact mono _ (h.part j hj h' z hz hzl hzs)
    · have : z = y := by omega
      subst this
      rw [atB_set hyM, if_pos rfl]
theorem BfsMid.over {g : GraphD} {s : List Bool} {v : Nat} {M : List Bool} {Q : List Int} {x m : Nat} (h : BfsMid g s v M Q x m) (hm : (rowG g x).length ≤ m) : BfsInv g s v M Q := by
  refine ⟨h.len, h.start, h.sound, h.queue, fun u hu => ?_⟩
  rcases h.done u hu with h1 | rfl | h1
  · exact .inl h1
  · refine .inr fun y hy hyl hys => ?_
    unfold EdgeG at hy
    obtain ⟨j, hj, e⟩ := List.mem_iff_getElem.1 hy
    exact h.part j hj (by omega) y e hyl hys
  · exact .inr h1
theorem BfsInv.end_ {g : GraphD} {s : List Bool} {v : Nat} {M : List Bool} (h : BfsInv g s v M []) : M = reachL g s v := by
  refine reachL_eq h.len fun x hx => ⟨h.sound x, fun hp => ?_⟩
  refine PathG.closed (P := fun u => atB M u = true) h.start (fun a b ha he hb hs => ?_) hp
  rcases h.done a ha with h1 | h1
  · simp at h1
  · exact h1 b he hb hs
theorem reachL_shut {g : GraphD} {s : List Bool} {v : Nat} (hs : atB s v = true) : reachL g s v = List.replicate g.length false := by
  refine (reachL_eq (by simp) fun x hx => ?_).symm
  constructor
  · intro h
    unfold atB at h
    rw [List.getD_eq_getElem?_getD, List.getElem?_replicate, if_pos hx] at h
    cases h
  · intro h
    have := h.left.2
    rw [hs] at this; cases this
end Go.Proofs.Ytcpoojlhfebcmaa.Fl
