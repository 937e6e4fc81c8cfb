/- Rows of the call's own, each in a block of its own, that are appended to one at a time. -/
import Derived.Test.YtifnmfljlgaeoaaRcReach
import Derived.Deep.AppendLies
namespace Go.Proofs.Ytifnmfljlgaeoaa
open Go Go.RowKit Fl

/-- As RowsOwn, the rows' blocks all different. -/
def RowsD (w : World) (base : Nat) (v : Value) (g : GraphD) : Prop :=
  ∃ vs : List Value, vs.length = g.length ∧ w.ownsRow base 24 1 v g.length vs ∧ (∀ (k : Nat) (u : Value) (r : List Int), vs[k]? = some u → g[k]? = some r → w.ownsRow base 3 1 u r.length (r.map Iv)) ∧
    ∀ (i j : Nat) (u1 u2 : Value) (b : Nat), vs[i]? = some u1 → vs[j]? = some u2 → i ≠ j → u1.ownBlock = some b → u2.ownBlock ≠ some b
theorem RowsD.rows {w : World} {base : Nat} {v : Value} {g : GraphD} (h : RowsD w base v g) : RowsOwn w base v g := by
  obtain ⟨vs, h1, h2, h3, _⟩ := h
  exact ⟨vs, h1, h2, h3⟩
theorem RowsD.keep {w w' : World} {base : Nat} {v : Value} {g : GraphD} (h : RowsD w base v g) (hb : Below w.heap.size w w') : RowsD w' base v g := by
  obtain ⟨vs, h1, h2, h3, h4⟩ := h
  exact ⟨vs, h1, ownsRow_below h2 hb, fun k u r hk hr => ownsRow_below (h3 k u r hk hr) hb, h4⟩
theorem rowsD_new {w : World} {base q n : Nat} (h : w.ownsRow base 24 1 (.slice (some ⟨q, 0, none⟩) n n) n (List.replicate n (.slice none 0 0))) : RowsD w base (.slice (some ⟨q, 0, none⟩) n n) (List.replicate n []) := by
  refine ⟨List.replicate n (.slice none 0 0), by simp, by simpa using h, fun k u r hk hr => ?_, fun i j u1 u2 b h1 h2 _ hb => ?_⟩
  · rw [List.getElem?_replicate] at hk hr
    by_cases hkn : k < n
    · rw [if_pos hkn] at hk hr
      injection hk with hk
      injection hr with hr
      subst hk hr
      exact World.ownsRow_nil _ _ _ _
    · rw [if_neg hkn] at hk
      cases hk
  · rw [List.getElem?_replicate] at h1
    split at h1
    · injection h1 with h1
      subst h1
      simp [Value.ownBlock] at hb
    · cases h1
/-- The k-th row's slice. -/
theorem RowsD.elem {w : World} {base q n cap k : Nat} {g : GraphD} (h : RowsD w base (.slice (some ⟨q, 0, none⟩) n cap) g) (hk : k < g.length) : ∃ A1 c1, w.cell? ⟨q, k, none⟩ = some (.slice A1 g[k].length c1) ∧ w.frozen? ⟨q, k, none⟩ = false ∧ w.ownsRow base 3 1 (.slice A1 g[k].length c1) g[k].length (g[k].map Iv) := by
  obtain ⟨vs, h1, h2, h3, _⟩ := h
  have e1 := List.getElem?_eq_getElem (l := vs) (i := k) (by omega)
  have h4 := h3 k _ _ e1 (List.getElem?_eq_getElem hk)
  obtain ⟨A1, c1, hv, h5⟩ := own_is h4
  have hn : n = g.length := by
    obtain ⟨A, c, hv2, _⟩ := own_is h2
    injection hv2 with _ hn _
  subst hn
  obtain ⟨c2, c3⟩ := own_get h2 e1
  exact ⟨A1, c1, by rw [c2, hv], c3, by rw [← hv]; exact h4⟩
theorem RowsD.app {W wn : World} {base q n cap k gg c1 c2 : Nat} {A1 : Option Addr} {g : GraphD} {z : Int} {o : Obj} (h : RowsD W base (.slice (some ⟨q, 0, none⟩) n cap) g) (hk : k < g.length) (hc : W.cell? ⟨q, k, none⟩ = some (.slice A1 g[k].length c1))
    (hg : (W.alloc o).grownBy wn (Value.slice A1 g[k].length c1).ownBlock) (hat : (Value.slice A1 g[k].length c1).ownBlock = some gg ∨ gg = (W.alloc o).heap.size)
    (hown : wn.ownsRow base 3 1 (.slice (some ⟨gg, 0, none⟩) (g[k].length + 1) c2) (g[k].length + 1) (g[k].map Iv ++ [Iv z])) :
    RowsD (wn.setCell ⟨q, k, none⟩ (.slice (some ⟨gg, 0, none⟩) (g[k].length + 1) c2)) base (.slice (some ⟨q, 0, none⟩) n cap) (g.set k (g[k] ++ [z])) := by
  obtain ⟨vs, h1, h2, h3, h4⟩ := h
  have hn : n = g.length := by
    obtain ⟨A, c, hv2, _⟩ := own_is h2
    injection hv2 with _ hn _
  subst hn
  have hkv : k < vs.length := by omega
  have e1 := List.getElem?_eq_getElem (l := vs) (i := k) hkv
  have hu : vs[k] = .slice A1 g[k].length c1 := by
    have := (own_get h2 e1).1
    rw [hc] at this
    injection this with this
    exact this.symm
  rw [hu] at e1
  have hq := own_row_block h2
  obtain ⟨csq, hq⟩ := hq
  have hown1 := h3 k _ _ e1 (List.getElem?_eq_getElem hk)
  have hblk : ∀ b, (Value.slice A1 g[k].length c1).ownBlock = some b → ∃ cur, W.heap[b]? = some (.cells cur 3 (0, 0)) := fun b hb => by
    obtain ⟨_, hr⟩ := hown1
    rcases hr with ⟨hv, _⟩ | ⟨g', cap', cur, hv, _, hh, _⟩
    · rw [hv] at hb; simp [Value.ownBlock] at hb
    · rw [hv] at hb
      simp [Value.ownBlock] at hb
      subst hb
      exact ⟨cur, hh⟩
  have hqne : ∀ b, (Value.slice A1 g[k].length c1).ownBlock = some b → b ≠ q := fun b hb e => by
    subst e
    obtain ⟨cur, h5⟩ := hblk b hb
    rw [hq] at h5
    injection h5 with h5
    injection h5 with _ h6
    exact absurd h6 (by decide)
  have hqlt := block_lt hq
  have hqn : wn.heap[q]? = some (.cells csq 24 (0, 0)) := (hg.block q (by simp; omega) (fun e => hqne q e.symm rfl)).trans ((heap_alloc_old W o hqlt).trans hq)
  have hkeep : ∀ (u : Value) (m : Nat) (xs : List Value) (e : TypeId), W.ownsRow base e 1 u m xs → (∀ b, u.ownBlock = some b → (Value.slice A1 g[k].length c1).ownBlock ≠ some b) → wn.ownsRow base e 1 u m xs := fun u m xs e ho hne => by
    obtain ⟨ho1, hr⟩ := ho
    refine ⟨ho1, ?_⟩
    rcases hr with hr | ⟨b, cap', cur, hv, hgb, hh, hrest⟩
    · exact .inl hr
    · refine .inr ⟨b, cap', cur, hv, hgb, (hg.block b (by have := block_lt hh; simp; omega) (fun e => hne b (by rw [hv]; rfl) e.symm)).trans ((heap_alloc_old W o (block_lt hh)).trans hh), hrest⟩
  have hset : ∀ (u : Value) (m : Nat) (xs : List Value), wn.ownsRow base 3 1 u m xs → (wn.setCell ⟨q, k, none⟩ (.slice (some ⟨gg, 0, none⟩) (g[k].length + 1) c2)).ownsRow base 3 1 u m xs := fun u m xs ho => by
    obtain ⟨ho1, hr⟩ := ho
    refine ⟨ho1, ?_⟩
    rcases hr with hr | ⟨b, cap', cur, hv, hgb, hh, hrest⟩
    · exact .inl hr
    · refine .inr ⟨b, cap', cur, hv, hgb, (Below.heap_setCell _ _ _ _ (fun e => ?_)).trans hh, hrest⟩
      simp only at e
      subst e
      rw [hh] at hqn
      injection hqn with hqn
      injection hqn with _ h6
      exact absurd h6 (by decide)
  have hrows : wn.ownsRow base 24 1 (.slice (some ⟨q, 0, none⟩) g.length cap) g.length vs := hkeep _ _ _ _ h2 (fun b hb hb2 => by
    simp [Value.ownBlock] at hb
    subst hb
    exact hqne q hb2 rfl)
  refine ⟨vs.set k (.slice (some ⟨gg, 0, none⟩) (g[k].length + 1) c2), by simpa using h1, by rw [List.length_set]; exact own_put hrows, fun i u r hi hr => ?_, fun i j u1 u2 b hi hj hij hb => ?_⟩
  · rw [List.getElem?_set] at hi hr
    by_cases e : k = i
    · subst e
      rw [if_pos rfl, if_pos hkv] at hi
      rw [if_pos rfl, if_pos hk] at hr
      injection hi with hi
      injection hr with hr
      subst hi hr
      exact hset _ _ _ (by simpa using hown)
    · rw [if_neg e] at hi hr
      exact hset _ _ _ (hkeep _ _ _ _ (h3 i u r hi hr) (fun b hb => fun hb2 => h4 i k u _ b hi e1 (fun e2 => e e2.symm) hb hb2))
  · rw [List.getElem?_set] at hi hj
    have hlt : ∀ (i : Nat) (u : Value), vs[i]? = some u → ∀ b, u.ownBlock = some b → b < W.heap.size := fun i u hi b hb => by
      obtain ⟨hi2, rfl⟩ := List.getElem?_eq_some_iff.1 hi
      have ho := h3 i _ _ hi (List.getElem?_eq_getElem (by omega))
      obtain ⟨_, hr⟩ := ho
      rcases hr with ⟨hv, _⟩ | ⟨b', cap', cur, hv, _, hh, _⟩
      · rw [hv] at hb; simp [Value.ownBlock] at hb
      · rw [hv] at hb
        simp [Value.ownBlock] at hb
        subst hb
        exact block_lt hh
    have hsz : (W.alloc o).heap.size = W.heap.size + 1 := by simp
    by_cases e : k = i
    · subst e
      rw [if_pos rfl, if_pos hkv] at hi
      rw [if_neg (fun e2 => hij e2)] at hj
      injection hi with hi
      subst hi
      simp [Value.ownBlock] at hb
      subst hb
      intro h6
      rcases hat with h7 | h7
      · exact h4 k j _ _ gg e1 hj hij h7 h6
      · have := hlt j u2 hj gg h6
        omega
    · rw [if_neg e] at hi
      by_cases e2 : k = j
      · subst e2
        rw [if_pos rfl, if_pos hkv] at hj
        injection hj with hj
        subst hj
        intro h6
        simp [Value.ownBlock] at h6
        subst h6
        rcases hat with h7 | h7
        · exact h4 i k _ _ gg hi e1 (fun e3 => e e3.symm) hb h7
        · have := hlt i u1 hi gg hb
          omega
      · rw [if_neg e2] at hj
        exact h4 i j u1 u2 b hi hj hij hb
/-- The block of the rows' slices is not touched where a row grows. -/
theorem RowsD.far {W wn : World} {base q n cap k c1 : Nat} {A1 : Option Addr} {g : GraphD} {o : Obj} (h : RowsD W base (.slice (some ⟨q, 0, none⟩) n cap) g) (hk : k < g.length) (hc : W.cell? ⟨q, k, none⟩ = some (.slice A1 g[k].length c1))
    (hg : (W.alloc o).grownBy wn (Value.slice A1 g[k].length c1).ownBlock) (i : Nat) : wn.cell? ⟨q, i, none⟩ = W.cell? ⟨q, i, none⟩ ∧ wn.frozen? ⟨q, i, none⟩ = W.frozen? ⟨q, i, none⟩ := by
  obtain ⟨vs, h1, h2, h3, h4⟩ := h
  have hn : n = g.length := by
    obtain ⟨A, c, hv2, _⟩ := own_is h2
    injection hv2 with _ hn _
  subst hn
  have e1 := List.getElem?_eq_getElem (l := vs) (i := k) (by omega)
  have hu : vs[k] = .slice A1 g[k].length c1 := by
    have := (own_get h2 e1).1
    rw [hc] at this
    injection this with this
    exact this.symm
  rw [hu] at e1
  obtain ⟨csq, hq⟩ := own_row_block h2
  have hown1 := h3 k _ _ e1 (List.getElem?_eq_getElem hk)
  have hqne : (Value.slice A1 g[k].length c1).ownBlock ≠ some q := fun hb => by
    obtain ⟨_, hr⟩ := hown1
    rcases hr with ⟨hv, _⟩ | ⟨g', cap', cur, hv, _, hh, _⟩
    · rw [hv] at hb; simp [Value.ownBlock] at hb
    · rw [hv] at hb
      simp [Value.ownBlock] at hb
      subst hb
      rw [hq] at hh
      injection hh with hh
      injection hh with _ h6
      exact absurd h6 (by decide)
  have hqlt := block_lt hq
  have hb : wn.heap[q]? = W.heap[q]? := (hg.block q (by simp; omega) (fun e => hqne e.symm)).trans (heap_alloc_old W o hqlt)
  exact ⟨World.cell?_of_block (w := W) (a := ⟨q, i, none⟩) hb, World.frozen?_of_block (w := W) (a := ⟨q, i, none⟩) hb⟩
theorem grownBy_drew {w wn : World} {row : Option Nat} (h : w.drew.grownBy wn row) : w.grownBy wn row := ⟨h.os, h.tape, h.output, h.size, h.block⟩
/-- Rows by a function of their number. -/
def rowsF (n : Nat) (f : Nat → List Int) : GraphD := (List.range n).map f
theorem rowsF_length (n : Nat) (f : Nat → List Int) : (rowsF n f).length = n := by simp [rowsF]
theorem rowsF_at {n k : Nat} {f : Nat → List Int} (h : k < (rowsF n f).length) : (rowsF n f)[k] = f k := by simp [rowsF]
theorem rowsF_set {n k : Nat} {f f' : Nat → List Int} {z : List Int} (hz : f' k = z) (hf : ∀ i, i ≠ k → f' i = f i) : (rowsF n f).set k z = rowsF n f' := by
  apply List.ext_getElem?
  intro i
  rw [List.getElem?_set]
  by_cases e : k = i
  · subst e
    by_cases hk : k < n
    · simp [rowsF, hk, hz]
    · simp [rowsF, hk]
  · rw [if_neg e]
    by_cases hi : i < n
    · simp [rowsF, hi, hf i (fun e2 => e e2.symm)]
    · simp [rowsF, hi]
theorem rowsF_congr {n : Nat} {f f' : Nat → List Int} (h : ∀ i, i < n → f i = f' i) : rowsF n f = rowsF n f' := by
  unfold rowsF
  exact List.map_congr_left fun i hi => h i (List.mem_range.1 hi)
theorem rowsF_nil (n : Nat) : rowsF n (fun _ => []) = List.replicate n [] := by simp [rowsF, List.map_const']
end Go.Proofs.Ytifnmfljlgaeoaa
