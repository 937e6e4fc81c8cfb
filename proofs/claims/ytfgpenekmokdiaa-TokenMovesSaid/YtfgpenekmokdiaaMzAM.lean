/- Joined texts. -/
import Derived.Test.YtfgpenekmokdiaaMzAA
import Derived.Test.YtfgpenekmokdiaaMzAI
import Derived.Test.YtfgpenekmokdiaaMzAJ
import Derived.Test.YtfgpenekmokdiaaMzAF
import Derived.Deep.LoopGhost
import Derived.Deep.AppendLies
namespace Go.Proofs.Ytfgpenekmokdiaa.Fl

def closedAt (g : GraphD) (s M : List Bool) (u : Nat) : Prop := ∀ y, EdgeG g u y → y < g.length → atB s y = false → atB M y = true
structure BfsInv (g : GraphD) (s : List Bool) (v : Nat) (M : List Bool) (Q : List Int) : Prop where
  len : M.length = g.length
  start : atB M v = true
  sound : ∀ u, atB M u = true → PathG g s v u
  queue : ∀ q ∈ Q, ∃ u : Nat, q = u ∧ u < g.length ∧ atB M u = true
  done : ∀ u, atB M u = true → (u : Int) ∈ Q ∨ closedAt g s M u
/-- In the midst of vertex x: m elements of its row are through. -/
structure BfsMid (g : GraphD) (s : List Bool) (v : Nat) (M : List Bool) (Q : List Int) (x m : Nat) : Prop where
  len : M.length = g.length
  start : atB M v = true
  sound : ∀ u, atB M u = true → PathG g s v u
  queue : ∀ q ∈ Q, ∃ u : Nat, q = u ∧ u < g.length ∧ atB M u = true
  here : atB M x = true
  done : ∀ u, atB M u = true → (u : Int) ∈ Q ∨ u = x ∨ closedAt g s M u
  part : ∀ j (h : j < (rowG g x).length), j < m → ∀ y : Nat, (rowG g x)[j] = y → y < g.length → atB s y = false → atB M y = true
def unm (M : List Bool) : Nat := M.count false
theorem atB_set {M : List Bool} {u y : Nat} (hy : y < M.length) : atB (M.set y true) u = if u = y then true else atB M u := by
  unfold atB
  rw [List.getD_eq_getElem?_getD, List.getElem?_set, List.getD_eq_getElem?_getD]
  by_cases e : u = y
  · subst e; simp [hy]
  · rw [if_neg (fun h => e h.symm), if_neg e]
theorem unm_set : ∀ {M : List Bool} {y : Nat}, y < M.length → atB M y = false → unm (M.set y true) + 1 = unm M
  | [], y, h, _ => by simp at h
  | b :: M, 0, _, hb => by
    have e : b = false := by simpa [atB] using hb
    subst e
    simp [unm]
  | b :: M, y + 1, h, hb => by
    have ih := unm_set (M := M) (y := y) (by simpa using h) (by simpa [atB] using hb)
    unfold unm at ih ⊢
    rw [List.set_cons_succ, List.count_cons, List.count_cons]
    omega
theorem bfs_start {g : GraphD} {s : List Bool} {v : Nat} (hv : v < g.length) (hs : atB s v = false) : BfsInv g s v ((List.replicate g.length false).set v true) [(v : Int)] := by
  have key : ∀ u, atB ((List.replicate g.length false).set v true) u = if u = v then true else false := fun u => by
    rw [atB_set (by simpa using hv)]
    by_cases e : u = v
    · rw [if_pos e, if_pos e]
    · rw [if_neg e, if_neg e]
      unfold atB
      rw [List.getD_eq_getElem?_getD, List.getElem?_replicate]
      split <;> rfl
  refine ⟨by simp, by rw [key, if_pos rfl], fun u hu => ?_, fun q hq => ?_, fun u hu => ?_⟩
  · rw [key] at hu
    split at hu
    · rename_i e; subst e; exact .refl hv hs
    · cases hu
  · simp at hq
    exact ⟨v, hq, hv, by rw [key, if_pos rfl]⟩
  · rw [key] at hu
    split at hu
    · rename_i e; subst e; exact .inl (by simp)
    · cases hu
theorem BfsInv.pop {g : GraphD} {s : List Bool} {v : Nat} {M : List Bool} {x : Int} {Q : List Int} (h : BfsInv g s v M (x :: Q)) : ∃ u : Nat, x = u ∧ u < g.length ∧ BfsMid g s v M Q u 0 := by
  obtain ⟨u, rfl, hu, hm⟩ := h.queue x (by simp)
  refine ⟨u, rfl, hu, h.len, h.start, h.sound, fun q hq => h.queue q (by simp [hq]), hm, fun z hz => ?_, fun j _ hj => by omega⟩
  rcases h.done z hz with h1 | h1
  · rcases List.mem_cons.1 h1 with h2 | h2
    · exact .inr (.inl (by omega))
    · exact .inl h2
  · exact .inr (.inr h1)
theorem BfsMid.skip {g : GraphD} {s : List Bool} {v : Nat} {M : List Bool} {Q : List Int} {x m : Nat} (h : BfsMid g s v M Q x m) (hs : ∀ (h : m < (rowG g x).length) (y : Nat), (rowG g x)[m] = y → atB s y = true ∨ atB M y = true) : BfsMid g s v M Q x (m + 1) := by
  refine ⟨h.len, h.start, h.sound, h.queue, h.here, h.done, fun j hj hjm y hy hyl hys => ?_⟩
  rcases Nat.lt_succ_iff_lt_or_eq.1 hjm with h' | rfl
  · exact h.part j hj h' y hy hyl hys
  · rcases hs hj y hy with h1 | h1
    · rw [h1] at hys; cases hys
    · exact h1
theorem BfsMid.mark {g : GraphD} {s : List Bool} {v : Nat} {M : List Bool} {Q : List Int} {x m y : Nat} (h : BfsMid g s v M Q x m) (hm : m < (rowG g x).length) (hy : (rowG g x)[m] = y) (hyl : y < g.length) (hys : atB s y = false) : BfsMid g s v (M.set y true) (Q ++ [(y : Int)]) x (m + 1) := by
  have hyM : y < M.length := by rw [h.len]; exact hyl
  have mono : ∀ u, atB M u = true → atB (M.set y true) u = true := fun u hu => by
    rw [atB_set hyM]; split
    · rfl
    · exact hu
  have hedge : EdgeG g x y := by unfold EdgeG; rw [← hy]; exact List.getElem_mem hm
  refine ⟨by simpa using h.len, mono _ h.start, fun u hu => ?_, fun q hq => ?_, mono _ h.here, fun u hu => ?_, fun j hj hjm z hz hzl hzs => ?_⟩
  · rw [atB_set hyM] at hu
    split at hu
    · rename_i e; subst e
      exact .step (h.sound x h.here) hedge hyl hys
    · exact h.sound u hu
  · rcases List.mem_append.1 hq with hq | hq
    · obtain ⟨u, h1, h2, h3⟩ := h.queue q hq
      exact ⟨u, h1, h2, mono _ h3⟩
    · simp at hq
      exact ⟨y, hq, hyl, by rw [atB_set hyM, if_pos rfl]⟩
  · rw [atB_set hyM] at hu
    split at hu
    · rename_i e; subst e; exact .inl (by simp)
    · rcases h.done u hu with h1 | h1 | h1
      · exact .inl (by simp [h1])
      · exact .inr (.inl h1)
      · exact .inr (.inr fun z hz hzl hzs => mono _ (h1 z hz hzl hzs))
  · rcases Nat.lt_succ_iff_lt_or_eq.1 hjm with h' | rfl
    · exact mono _ (h.part j hj h' z hz hzl hzs)
    · have : z = y := by omega
      subst this
      rw [atB_set hyM, if_pos rfl]
theorem BfsMid.over {g : GraphD} {s : List Bool} {v : Nat} {M : List Bool} {Q : List Int} {x m : Nat} (h : BfsMid g s v M Q x m) (hm : (rowG g x).length ≤ m) : BfsInv g s v M Q := by
  refine ⟨h.len, h.start, h.sound, h.queue, fun u hu => ?_⟩
  rcases h.done u hu with h1 | rfl | h1
  · exact .inl h1
  · refine .inr fun y hy hyl hys => ?_
    unfold EdgeG at hy
    obtain ⟨j, hj, e⟩ := List.mem_iff_getElem.1 hy
    exact h.part j hj (by omega) y e hyl hys
  · exact .inr h1
theorem BfsInv.end_ {g : GraphD} {s : List Bool} {v : Nat} {M : List Bool} (h : BfsInv g s v M []) : M = reachL g s v := by
  refine reachL_eq h.len fun x hx => ⟨h.sound x, fun hp => ?_⟩
  refine PathG.closed (P := fun u => atB M u = true) h.start (fun a b ha he hb hs => ?_) hp
  rcases h.done a ha with h1 | h1
  · simp at h1
  · exact h1 b he hb hs
theorem reachL_shut {g : GraphD} {s : List Bool} {v : Nat} (hs : atB s v = true) : reachL g s v = List.replicate g.length false := by
  refine (reachL_eq (by simp) fun x hx => ?_).symm
  constructor
  · intro h
    unfold atB at h
    rw [List.getD_eq_getElem?_getD, List.getElem?_replicate, if_pos hx] at h
    cases h
  · intro h
    have := h.left.2
    rw [hs] at this; cases this
end Go.Proofs.Ytfgpenekmokdiaa.Fl
namespace Go.Proofs.Ytfgpenekmokdiaa
open Go Go.RowKit Fl

theorem own_row_other {w w' : World} {base n : Nat} {e t : TypeId} {v : Value} {xs : List Value} {row : Option Nat} (h : w.ownsRow base e 1 v n xs) (hg : w.grownBy w' row) (hr : ∀ k, row = some k → ∃ cur, w.heap[k]? = some (.cells cur t (0, 0))) (ht : e ≠ t) : w'.ownsRow base e 1 v n xs := by
  obtain ⟨h1, hr1⟩ := h
  refine ⟨h1, ?_⟩
  rcases hr1 with hr1 | ⟨b, cap, cur, hv, hgb, hh, hrest⟩
  · exact .inl hr1
  · refine .inr ⟨b, cap, cur, hv, hgb, (hg.block b (block_lt hh) (fun e1 => ?_)).trans hh, hrest⟩
    obtain ⟨cur', h2⟩ := hr b e1.symm
    rw [hh] at h2
    injection h2 with h2
    injection h2 with _ h3
    exact ht h3
theorem own_marks {w : World} {base n g cap : Nat} {L : List Bool} (h : w.ownsRow base 4 1 (.slice (some ⟨g, 0, none⟩) n cap) n (L.map Bo)) (i : Nat) (hi : i < L.length) : w.cell? ⟨g, i, none⟩ = some (.bool L[i]) ∧ w.frozen? ⟨g, i, none⟩ = false :=
  own_get h (by simp [hi])
theorem own_marks_set {w : World} {base n g cap : Nat} {L : List Bool} (h : w.ownsRow base 4 1 (.slice (some ⟨g, 0, none⟩) n cap) n (L.map Bo)) (i : Nat) (z : Bool) : (w.setCell ⟨g, i, none⟩ (.bool z)).ownsRow base 4 1 (.slice (some ⟨g, 0, none⟩) n cap) n ((L.set i z).map Bo) := by
  rw [List.map_set]; exact own_put h
theorem own_row_block {w : World} {base n g cap : Nat} {e : TypeId} {xs : List Value} (h : w.ownsRow base e 1 (.slice (some ⟨g, 0, none⟩) n cap) n xs) : ∃ cs, w.heap[g]? = some (.cells cs e (0, 0)) := by
  obtain ⟨_, h⟩ := h
  rcases h with ⟨hv, _⟩ | ⟨g', cap', cur, hv, _, hh, _⟩
  · cases hv
  · injection hv with hA _ _
    injection hA with hA
    injection hA with hA
    subst hA
    exact ⟨cur, hh⟩
theorem atB_at {s : List Bool} {v : Nat} (h : v < s.length) : atB s v = s[v] := by unfold atB; rw [List.getD_eq_getElem?_getD, List.getElem?_eq_getElem h]; rfl
theorem alloc_set (w : World) (a : Addr) (u : Value) (o : Obj) : ((w.setCell a u).alloc o).heap[w.heap.size]? = some o := by
  have h := heap_alloc_new (w.setCell a u) o
  have e : (w.setCell a u).heap.size = w.heap.size := by simp [World.setCell]
  rwa [e] at h
end Go.Proofs.Ytfgpenekmokdiaa
namespace Go.Proofs.Ytfgpenekmokdiaa
open Go Go.RowKit Fl

theorem chkG_cases (g : GraphD) (m : Nat) : (chkG g m = 0 ∧ validG g = true ∧ m = g.length) ∨ chkG g m = 19 ∨ chkG g m = 20 := by
  unfold chkG
  rcases h : validG g with _ | _
  · simp
  · by_cases e : m = g.length
    · left; simp [e]
    · right; left; simp [e]
/-- The error of From. -/
def fromE (g : GraphD) (m : Nat) (v : Int) : Int := if chkG g m = 0 then (if 0 ≤ v ∧ v < g.length then 0 else 19) else chkG g m
open Classical in
noncomputable def fromL (g : GraphD) (s : List Bool) (v : Int) : List Bool := if fromE g s.length v = 0 then reachL g s v.toNat else []
theorem fromL_ok {g : GraphD} {s : List Bool} {v : Int} (h : fromE g s.length v = 0) : fromL g s v = reachL g s v.toNat := by unfold fromL; rw [if_pos h]
theorem fromL_err {g : GraphD} {s : List Bool} {v : Int} (h : fromE g s.length v ≠ 0) : fromL g s v = [] := by unfold fromL; rw [if_neg h]
def FromPost (w : World) (l : List Bool) (k : Int) (e : Ending) (w' : World) : Prop := ∃ u, e = .returned (.tuple #[u, .int .i64 k]) ∧ w'.ownsRow w.heap.size 4 1 u l.length (l.map Bo) ∧ Below w.heap.size w w'
/-- All open vertices reach each other, and there is one. -/
def mutP (g : GraphD) (s : List Bool) : Prop := (∃ v, v < g.length ∧ atB s v = false) ∧ ∀ u v, u < g.length → v < g.length → atB s u = false → atB s v = false → PathG g s u v
open Classical in
noncomputable def mutB (g : GraphD) (s : List Bool) : Bool := decide (chkG g s.length = 0 ∧ mutP g s)
open Classical in
theorem mutB_iff (g : GraphD) (s : List Bool) : mutB g s = true ↔ chkG g s.length = 0 ∧ mutP g s := by unfold mutB; exact decide_eq_true_iff
theorem mutB_no {g : GraphD} {s : List Bool} (h : ¬ (chkG g s.length = 0 ∧ mutP g s)) : mutB g s = false := by
  rcases e : mutB g s with _ | _
  · rfl
  · exact absurd ((mutB_iff g s).1 e) h
end Go.Proofs.Ytfgpenekmokdiaa
namespace Go.Proofs.Ytfgpenekmokdiaa
open Go Go.RowKit Fl

/-- As RowsOwn, the rows' blocks all different. -/
def RowsD (w : World) (base : Nat) (v : Value) (g : GraphD) : Prop :=
  ∃ vs : List Value, vs.length = g.length ∧ w.ownsRow base 23 1 v g.length vs ∧ (∀ (k : Nat) (u : Value) (r : List Int), vs[k]? = some u → g[k]? = some r → w.ownsRow base 3 1 u r.length (r.map Iv)) ∧
    ∀ (i j : Nat) (u1 u2 : Value) (b : Nat), vs[i]? = some u1 → vs[j]? = some u2 → i ≠ j → u1.ownBlock = some b → u2.ownBlock ≠ some b
theorem RowsD.rows {w : World} {base : Nat} {v : Value} {g : GraphD} (h : RowsD w base v g) : RowsOwn w base v g := by
  obtain ⟨vs, h1, h2, h3, _⟩ := h
  exact ⟨vs, h1, h2, h3⟩
theorem RowsD.keep {w w' : World} {base : Nat} {v : Value} {g : GraphD} (h : RowsD w base v g) (hb : Below w.heap.size w w') : RowsD w' base v g := by
  obtain ⟨vs, h1, h2, h3, h4⟩ := h
  exact ⟨vs, h1, ownsRow_below h2 hb, fun k u r hk hr => ownsRow_below (h3 k u r hk hr) hb, h4⟩
theorem rowsD_new {w : World} {base q n : Nat} (h : w.ownsRow base 23 1 (.slice (some ⟨q, 0, none⟩) n n) n (List.replicate n (.slice none 0 0))) : RowsD w base (.slice (some ⟨q, 0, none⟩) n n) (List.replicate n []) := by
  refine ⟨List.replicate n (.slice none 0 0), by simp, by simpa using h, fun k u r hk hr => ?_, fun i j u1 u2 b h1 h2 _ hb => ?_⟩
  · rw [List.getElem?_replicate] at hk hr
    by_cases hkn : k < n
    · rw [if_pos hkn] at hk hr
      injection hk with hk
      injection hr with hr
      subst hk hr
      exact World.ownsRow_nil _ _ _ _
    · rw [if_neg hkn] at hk
      cases hk
  · rw [List.getElem?_replicate] at h1
    split at h1
    · injection h1 with h1
      subst h1
      simp [Value.ownBlock] at hb
    · cases h1
/-- The k-th row's slice. -/
theorem RowsD.elem {w : World} {base q n cap k : Nat} {g : GraphD} (h : RowsD w base (.slice (some ⟨q, 0, none⟩) n cap) g) (hk : k < g.length) : ∃ A1 c1, w.cell? ⟨q, k, none⟩ = some (.slice A1 g[k].length c1) ∧ w.frozen? ⟨q, k, none⟩ = false ∧ w.ownsRow base 3 1 (.slice A1 g[k].length c1) g[k].length (g[k].map Iv) := by
  obtain ⟨vs, h1, h2, h3, _⟩ := h
  have e1 := List.getElem?_eq_getElem (l := vs) (i := k) (by omega)
  have h4 := h3 k _ _ e1 (List.getElem?_eq_getElem hk)
  obtain ⟨A1, c1, hv, h5⟩ := own_is h4
  have hn : n = g.length := by
    obtain ⟨A, c, hv2, _⟩ := own_is h2
    injection hv2 with _ hn _
  subst hn
  obtain ⟨c2, c3⟩ := own_get h2 e1
  exact ⟨A1, c1, by rw [c2, hv], c3, by rw [← hv]; exact h4⟩
theorem RowsD.app {W wn : World} {base q n cap k gg c1 c2 : Nat} {A1 : Option Addr} {g : GraphD} {z : Int} {o : Obj} (h : RowsD W base (.slice (some ⟨q, 0, none⟩) n cap) g) (hk : k < g.length) (hc : W.cell? ⟨q, k, none⟩ = some (.slice A1 g[k].length c1))
    (hg : (W.alloc o).grownBy wn (Value.slice A1 g[k].length c1).ownBlock) (hat : (Value.slice A1 g[k].length c1).ownBlock = some gg ∨ gg = (W.alloc o).heap.size)
    (hown : wn.ownsRow base 3 1 (.slice (some ⟨gg, 0, none⟩) (g[k].length + 1) c2) (g[k].length + 1) (g[k].map Iv ++ [Iv z])) :
    RowsD (wn.setCell ⟨q, k, none⟩ (.slice (some ⟨gg, 0, none⟩) (g[k].length + 1) c2)) base (.slice (some ⟨q, 0, none⟩) n cap) (g.set k (g[k] ++ [z])) := by
  obtain ⟨vs, h1, h2, h3, h4⟩ := h
  have hn : n = g.length := by
    obtain ⟨A, c, hv2, _⟩ := own_is h2
    injection hv2 with _ hn _
  subst hn
  have hkv : k < vs.length := by omega
  have e1 := List.getElem?_eq_getElem (l := vs) (i := k) hkv
  have hu : vs[k] = .slice A1 g[k].length c1 := by
    have := (own_get h2 e1).1
    rw [hc] at this
    injection this with this
    exact this.symm
  rw [hu] at e1
  have hq := own_row_block h2
  obtain ⟨csq, hq⟩ := hq
  have hown1 := h3 k _ _ e1 (List.getElem?_eq_getElem hk)
  have hblk : ∀ b, (Value.slice A1 g[k].length c1).ownBlock = some b → ∃ cur, W.heap[b]? = some (.cells cur 3 (0, 0)) := fun b hb => by
    obtain ⟨_, hr⟩ := hown1
    rcases hr with ⟨hv, _⟩ | ⟨g', cap', cur, hv, _, hh, _⟩
    · rw [hv] at hb; simp [Value.ownBlock] at hb
    · rw [hv] at hb
      simp [Value.ownBlock] at hb
      subst hb
      exact ⟨cur, hh⟩
  have hqne : ∀ b, (Value.slice A1 g[k].length c1).ownBlock = some b → b ≠ q := fun b hb e => by
    subst e
    obtain ⟨cur, h5⟩ := hblk b hb
    rw [hq] at h5
    injection h5 with h5
    injection h5 with _ h6
    exact absurd h6 (by decide)
  have hqlt := block_lt hq
  have hqn : wn.heap[q]? = some (.cells csq 23 (0, 0)) := (hg.block q (by simp; omega) (fun e => hqne q e.symm rfl)).trans ((heap_alloc_old W o hqlt).trans hq)
  have hkeep : ∀ (u : Value) (m : Nat) (xs : List Value) (e : TypeId), W.ownsRow base e 1 u m xs → (∀ b, u.ownBlock = some b → (Value.slice A1 g[k].length c1).ownBlock ≠ some b) → wn.ownsRow base e 1 u m xs := fun u m xs e ho hne => by
    obtain ⟨ho1, hr⟩ := ho
    refine ⟨ho1, ?_⟩
    rcases hr with hr | ⟨b, cap', cur, hv, hgb, hh, hrest⟩
    · exact .inl hr
    · refine .inr ⟨b, cap', cur, hv, hgb, (hg.block b (by have := block_lt hh; simp; omega) (fun e => hne b (by rw [hv]; rfl) e.symm)).trans ((heap_alloc_old W o (block_lt hh)).trans hh), hrest⟩
  have hset : ∀ (u : Value) (m : Nat) (xs : List Value), wn.ownsRow base 3 1 u m xs → (wn.setCell ⟨q, k, none⟩ (.slice (some ⟨gg, 0, none⟩) (g[k].length + 1) c2)).ownsRow base 3 1 u m xs := fun u m xs ho => by
    obtain ⟨ho1, hr⟩ := ho
    refine ⟨ho1, ?_⟩
    rcases hr with hr | ⟨b, cap', cur, hv, hgb, hh, hrest⟩
    · exact .inl hr
    · refine .inr ⟨b, cap', cur, hv, hgb, (Below.heap_setCell _ _ _ _ (fun e => ?_)).trans hh, hrest⟩
      simp only at e
      subst e
      rw [hh] at hqn
      injection hqn with hqn
      injection hqn with _ h6
      exact absurd h6 (by decide)
  have hrows : wn.ownsRow base 23 1 (.slice (some ⟨q, 0, none⟩) g.length cap) g.length vs := hkeep _ _ _ _ h2 (fun b hb hb2 => by
    simp [Value.ownBlock] at hb
    subst hb
    exact hqne q hb2 rfl)
  refine ⟨vs.set k (.slice (some ⟨gg, 0, none⟩) (g[k].length + 1) c2), by simpa using h1, by rw [List.length_set]; exact own_put hrows, fun i u r hi hr => ?_, fun i j u1 u2 b hi hj hij hb => ?_⟩
  · rw [List.getElem?_set] at hi hr
    by_cases e : k = i
    · subst e
      rw [if_pos rfl, if_pos hkv] at hi
      rw [if_pos rfl, if_pos hk] at hr
      injection hi with hi
      injection hr with hr
      subst hi hr
      exact hset _ _ _ (by simpa using hown)
    · rw [if_neg e] at hi hr
      exact hset _ _ _ (hkeep _ _ _ _ (h3 i u r hi hr) (fun b hb => fun hb2 => h4 i k u _ b hi e1 (fun e2 => e e2.symm) hb hb2))
  · rw [List.getElem?_set] at hi hj
    have hlt : ∀ (i : Nat) (u : Value), vs[i]? = some u → ∀ b, u.ownBlock = some b → b < W.heap.size := fun i u hi b hb => by
      obtain ⟨hi2, rfl⟩ := List.getElem?_eq_some_iff.1 hi
      have ho := h3 i _ _ hi (List.getElem?_eq_getElem (by omega))
      obtain ⟨_, hr⟩ := ho
      rcases hr with ⟨hv, _⟩ | ⟨b', cap', cur, hv, _, hh, _⟩
      · rw [hv] at hb; simp [Value.ownBlock] at hb
      · rw [hv] at hb
        simp [Value.ownBlock] at hb
        subst hb
        exact block_lt hh
    have hsz : (W.alloc o).heap.size = W.heap.size + 1 := by simp
    by_cases e : k = i
    · subst e
      rw [if_pos rfl, if_pos hkv] at hi
      rw [if_neg (fun e2 => hij e2)] at hj
      injection hi with hi
      subst hi
      simp [Value.ownBlock] at hb
      subst hb
      intro h6
      rcases hat with h7 | h7
      · exact h4 k j _ _ gg e1 hj hij h7 h6
      · have := hlt j u2 hj gg h6
        omega
    · rw [if_neg e] at hi
      by_cases e2 : k = j
      · subst e2
        rw [if_pos rfl, if_pos hkv] at hj
        injection hj with hj
        subst hj
        intro h6
        simp [Value.ownBlock] at h6
        subst h6
        rcases hat with h7 | h7
        · exact h4 i k _ _ gg hi e1 (fun e3 => e e3.symm) hb h7
        · have := hlt i u1 hi gg hb
          omega
      · rw [if_neg e2] at hj
        exact h4 i j u1 u2 b hi hj hij hb
/-- The block of the rows' slices is not touched where a row grows. -/
theorem RowsD.far {W wn : World} {base q n cap k c1 : Nat} {A1 : Option Addr} {g : GraphD} {o : Obj} (h : RowsD W base (.slice (some ⟨q, 0, none⟩) n cap) g) (hk : k < g.length) (hc : W.cell? ⟨q, k, none⟩ = some (.slice A1 g[k].length c1))
    (hg : (W.alloc o).grownBy wn (Value.slice A1 g[k].length c1).ownBlock) (i : Nat) : wn.cell? ⟨q, i, none⟩ = W.cell? ⟨q, i, none⟩ ∧ wn.frozen? ⟨q, i, none⟩ = W.frozen? ⟨q, i, none⟩ := by
  obtain ⟨vs, h1, h2, h3, h4⟩ := h
  have hn : n = g.length := by
    obtain ⟨A, c, hv2, _⟩ := own_is h2
    injection hv2 with _ hn _
  subst hn
  have e1 := List.getElem?_eq_getElem (l := vs) (i := k) (by omega)
  have hu : vs[k] = .slice A1 g[k].length c1 := by
    have := (own_get h2 e1).1
    rw [hc] at this
    injection this with this
    exact this.symm
  rw [hu] at e1
  obtain ⟨csq, hq⟩ := own_row_block h2
  have hown1 := h3 k _ _ e1 (List.getElem?_eq_getElem hk)
  have hqne : (Value.slice A1 g[k].length c1).ownBlock ≠ some q := fun hb => by
    obtain ⟨_, hr⟩ := hown1
    rcases hr with ⟨hv, _⟩ | ⟨g', cap', cur, hv, _, hh, _⟩
    · rw [hv] at hb; simp [Value.ownBlock] at hb
    · rw [hv] at hb
      simp [Value.ownBlock] at hb
      subst hb
      rw [hq] at hh
      injection hh with hh
      injection hh with _ h6
      exact absurd h6 (by decide)
  have hqlt := block_lt hq
  have hb : wn.heap[q]? = W.heap[q]? := (hg.block q (by simp; omega) (fun e => hqne e.symm)).trans (heap_alloc_old W o hqlt)
  exact ⟨World.cell?_of_block (w := W) (a := ⟨q, i, none⟩) hb, World.frozen?_of_block (w := W) (a := ⟨q, i, none⟩) hb⟩
theorem grownBy_drew {w wn : World} {row : Option Nat} (h : w.drew.grownBy wn row) : w.grownBy wn row := ⟨h.os, h.tape, h.output, h.size, h.block⟩
/-- Rows by a function of their number. -/
def rowsF (n : Nat) (f : Nat → List Int) : GraphD := (List.range n).map f
theorem rowsF_length (n : Nat) (f : Nat → List Int) : (rowsF n f).length = n := by simp [rowsF]
theorem rowsF_at {n k : Nat} {f : Nat → List Int} (h : k < (rowsF n f).length) : (rowsF n f)[k] = f k := by simp [rowsF]
theorem rowsF_set {n k : Nat} {f f' : Nat → List Int} {z : List Int} (hz : f' k = z) (hf : ∀ i, i ≠ k → f' i = f i) : (rowsF n f).set k z = rowsF n f' := by
  apply List.ext_getElem?
  intro i
  rw [List.getElem?_set]
  by_cases e : k = i
  · subst e
    by_cases hk : k < n
    · simp [rowsF, hk, hz]
    · simp [rowsF, hk]
  · rw [if_neg e]
    by_cases hi : i < n
    · simp [rowsF, hi, hf i (fun e2 => e e2.symm)]
    · simp [rowsF, hi]
theorem rowsF_congr {n : Nat} {f f' : Nat → List Int} (h : ∀ i, i < n → f i = f' i) : rowsF n f = rowsF n f' := by
  unfold rowsF
  exact List.map_congr_left fun i hi => h i (List.mem_range.1 hi)
theorem rowsF_nil (n : Nat) : rowsF n (fun _ => []) = List.replicate n [] := by simp [rowsF, List.map_const']
end Go.Proofs.Ytfgpenekmokdiaa
