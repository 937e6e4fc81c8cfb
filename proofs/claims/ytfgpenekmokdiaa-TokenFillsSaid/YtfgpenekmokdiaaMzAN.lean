/- Joined texts. -/
import Derived.Test.YtfgpenekmokdiaaMzAF
import Derived.Deep.AppendLies
import Derived.Test.YtfgpenekmokdiaaMzAM
import Derived.Deep.RegionLaw
namespace Go.Proofs.Ytfgpenekmokdiaa
open Go Go.RowKit Fl

theorem Try.infoBools : (Try.prog.info? 50).map (fun i => (i.zero, i.size, i.bytes)) = some (some (.slice none 0 0), 1, 24) := by kernel_rfl
/-- A list of the call's own of rows of the call's own: what the first k vertices reach. -/
def AllAt (w : World) (base : Nat) (v : Value) (g : GraphD) (s : List Bool) (k : Nat) : Prop := ∃ vs : List Value, vs.length = k ∧ w.ownsRow base 50 1 v k vs ∧ ∀ j u, vs[j]? = some u → w.ownsRow base 4 1 u g.length ((reachL g s j).map Bo)
theorem AllAt.nil (w : World) (base : Nat) (g : GraphD) (s : List Bool) : AllAt w base (.slice none 0 0) g s 0 := ⟨[], rfl, World.ownsRow_nil _ _ _ _, fun j u h => by simp at h⟩
theorem AllAt.keep {w w' : World} {base : Nat} {v : Value} {g : GraphD} {s : List Bool} {k : Nat} (h : AllAt w base v g s k) (hb : Below w.heap.size w w') : AllAt w' base v g s k := by
  obtain ⟨vs, h1, h2, h3⟩ := h
  exact ⟨vs, h1, ownsRow_below h2 hb, fun j u hu => ownsRow_below (h3 j u hu) hb⟩
theorem AllAt.at_ {w : World} {base q cap : Nat} {g : GraphD} {s : List Bool} {k j : Nat} (h : AllAt w base (.slice (some ⟨q, 0, none⟩) k cap) g s k) (hj : j < k) : ∃ X c, w.cell? ⟨q, j, none⟩ = some (.slice X g.length c) ∧ Holds w X ((reachL g s j).map Bo) := by
  obtain ⟨vs, h1, h2, h3⟩ := h
  have hjv : j < vs.length := by omega
  have hu : vs[j]? = some vs[j] := List.getElem?_eq_getElem hjv
  obtain ⟨X, c, h4, h5⟩ := own_is (h3 j _ hu)
  exact ⟨X, c, by rw [(own_get h2 hu).1, h4], h5⟩
theorem AllAt.form {w : World} {base : Nat} {v : Value} {g : GraphD} {s : List Bool} {k : Nat} (h : AllAt w base v g s k) (hk : 0 < k) : ∃ q cap, v = .slice (some ⟨q, 0, none⟩) k cap := by
  obtain ⟨vs, h1, h2, h3⟩ := h
  obtain ⟨q, cap, h4, _⟩ := own_at h2 hk
  exact ⟨q, cap, h4⟩
/-- One row more. -/
theorem AllAt.app {w w' : World} {base : Nat} {v v' u : Value} {g : GraphD} {s : List Bool} {k : Nat} {vs : List Value} (h1 : vs.length = k) (h2 : w.ownsRow base 50 1 v k vs) (h3 : ∀ j u, vs[j]? = some u → w.ownsRow base 4 1 u g.length ((reachL g s j).map Bo))
    (hu : w.ownsRow base 4 1 u g.length ((reachL g s k).map Bo)) (hg : w.grownBy w' v.ownBlock) (ho : w'.ownsRow base 50 1 v' (k + 1) (vs ++ [u])) : AllAt w' base v' g s (k + 1) := by
  have hr : ∀ q, v.ownBlock = some q → ∃ cur, w.heap[q]? = some (.cells cur 50 (0, 0)) := fun q hq => by
    rcases h2.2 with ⟨hv, _⟩ | ⟨g', cap, cur, hv, _, hh, _⟩
    · rw [hv] at hq; cases hq
    · rw [hv] at hq
      injection hq with hq
      subst hq
      exact ⟨cur, hh⟩
  refine ⟨vs ++ [u], by simp [h1], ho, fun j x hx => ?_⟩
  have key : w.ownsRow base 4 1 x g.length ((reachL g s j).map Bo) := by
    rw [List.getElem?_append] at hx
    split at hx
    · exact h3 j x hx
    · rename_i hjk
      have hjk' : j = k := by
        have := (List.getElem?_eq_some_iff.1 hx).1
        simp at this
        omega
      subst hjk'
      simp [h1] at hx
      subst hx
      exact hu
  exact own_row_other key hg hr (by decide)
end Go.Proofs.Ytfgpenekmokdiaa
namespace Go.Proofs.Ytfgpenekmokdiaa
open Go Go.RowKit Fl

/-- As RowsOwn, the rows' blocks all different. -/
def RowsD (w : World) (base : Nat) (v : Value) (g : GraphD) : Prop :=
  ∃ vs : List Value, vs.length = g.length ∧ w.ownsRow base 23 1 v g.length vs ∧ (∀ (k : Nat) (u : Value) (r : List Int), vs[k]? = some u → g[k]? = some r → w.ownsRow base 3 1 u r.length (r.map Iv)) ∧
    ∀ (i j : Nat) (u1 u2 : Value) (b : Nat), vs[i]? = some u1 → vs[j]? = some u2 → i ≠ j → u1.ownBlock = some b → u2.ownBlock ≠ some b
theorem RowsD.rows {w : World} {base : Nat} {v : Value} {g : GraphD} (h : RowsD w base v g) : RowsOwn w base v g := by
  obtain ⟨vs, h1, h2, h3, _⟩ := h
  exact ⟨vs, h1, h2, h3⟩
theorem RowsD.keep {w w' : World} {base : Nat} {v : Value} {g : GraphD} (h : RowsD w base v g) (hb : Below w.heap.size w w') : RowsD w' base v g := by
  obtain ⟨vs, h1, h2, h3, h4⟩ := h
  exact ⟨vs, h1, ownsRow_below h2 hb, fun k u r hk hr => ownsRow_below (h3 k u r hk hr) hb, h4⟩
theorem rowsD_new {w : World} {base q n : Nat} (h : w.ownsRow base 23 1 (.slice (some ⟨q, 0, none⟩) n n) n (List.replicate n (.slice none 0 0))) : RowsD w base (.slice (some ⟨q, 0, none⟩) n n) (List.replicate n []) := by
  refine ⟨List.replicate n (.slice none 0 0), by simp, by simpa using h, fun k u r hk hr => ?_, fun i j u1 u2 b h1 h2 _ hb => ?_⟩
  · rw [List.getElem?_replicate] at hk hr
    by_cases hkn : k < n
    · rw [if_pos hkn] at hk hr
      injection hk with hk
      injection hr with hr
      subst hk hr
      exact World.ownsRow_nil _ _ _ _
    · rw [if_neg hkn] at hk
      cases hk
  · rw [List.getElem?_replicate] at h1
    split at h1
    · injection h1 with h1
      subst h1
      simp [Value.ownBlock] at hb
    · cases h1
/-- The k-th row's slice. -/
theorem RowsD.elem {w : World} {base q n cap k : Nat} {g : GraphD} (h : RowsD w base (.slice (some ⟨q, 0, none⟩) n cap) g) (hk : k < g.length) : ∃ A1 c1, w.cell? ⟨q, k, none⟩ = some (.slice A1 g[k].length c1) ∧ w.frozen? ⟨q, k, none⟩ = false ∧ w.ownsRow base 3 1 (.slice A1 g[k].length c1) g[k].length (g[k].map Iv) := by
  obtain ⟨vs, h1, h2, h3, _⟩ := h
  have e1 := List.getElem?_eq_getElem (l := vs) (i := k) (by omega)
  have h4 := h3 k _ _ e1 (List.getElem?_eq_getElem hk)
  obtain ⟨A1, c1, hv, h5⟩ := own_is h4
  have hn : n = g.length := by
    obtain ⟨A, c, hv2, _⟩ := own_is h2
    injection hv2 with _ hn _
  subst hn
  obtain ⟨c2, c3⟩ := own_get h2 e1
  exact ⟨A1, c1, by rw [c2, hv], c3, by rw [← hv]; exact h4⟩
theorem RowsD.app {W wn : World} {base q n cap k gg c1 c2 : Nat} {A1 : Option Addr} {g : GraphD} {z : Int} {o : Obj} (h : RowsD W base (.slice (some ⟨q, 0, none⟩) n cap) g) (hk : k < g.length) (hc : W.cell? ⟨q, k, none⟩ = some (.slice A1 g[k].length c1))
    (hg : (W.alloc o).grownBy wn (Value.slice A1 g[k].length c1).ownBlock) (hat : (Value.slice A1 g[k].length c1).ownBlock = some gg ∨ gg = (W.alloc o).heap.size)
    (hown : wn.ownsRow base 3 1 (.slice (some ⟨gg, 0, none⟩) (g[k].length + 1) c2) (g[k].length + 1) (g[k].map Iv ++ [Iv z])) :
    RowsD (wn.setCell ⟨q, k, none⟩ (.slice (some ⟨gg, 0, none⟩) (g[k].length + 1) c2)) base (.slice (some ⟨q, 0, none⟩) n cap) (g.set k (g[k] ++ [z])) := by
  obtain ⟨vs, h1, h2, h3, h4⟩ := h
  have hn : n = g.length := by
    obtain ⟨A, c, hv2, _⟩ := own_is h2
    injection hv2 with _ hn _
  subst hn
  have hkv : k < vs.length := by omega
  have e1 := List.getElem?_eq_getElem (l := vs) (i := k) hkv
  have hu : vs[k] = .slice A1 g[k].length c1 := by
    have := (own_get h2 e1).1
    rw [hc] at this
    injection this with this
    exact this.symm
  rw [hu] at e1
  have hq := own_row_block h2
  obtain ⟨csq, hq⟩ := hq
  have hown1 := h3 k _ _ e1 (List.getElem?_eq_getElem hk)
  have hblk : ∀ b, (Value.slice A1 g[k].length c1).ownBlock = some b → ∃ cur, W.heap[b]? = some (.cells cur 3 (0, 0)) := fun b hb => by
    obtain ⟨_, hr⟩ := hown1
    rcases hr with ⟨hv, _⟩ | ⟨g', cap', cur, hv, _, hh, _⟩
    · rw [hv] at hb; simp [Value.ownBlock] at hb
    · rw [hv] at hb
      simp [Value.ownBlock] at hb
      subst hb
      exact ⟨cur, hh⟩
  have hqne : ∀ b, (Value.slice A1 g[k].length c1).ownBlock = some b → b ≠ q := fun b hb e => by
    subst e
    obtain ⟨cur, h5⟩ := hblk b hb
    rw [hq] at h5
    injection h5 with h5
    injection h5 with _ h6
    exact absurd h6 (by decide)
  have hqlt := block_lt hq
  have hqn : wn.heap[q]? = some (.cells csq 23 (0, 0)) := (hg.block q (by simp; omega) (fun e => hqne q e.symm rfl)).trans ((heap_alloc_old W o hqlt).trans hq)
  have hkeep : ∀ (u : Value) (m : Nat) (xs : List Value) (e : TypeId), W.ownsRow base e 1 u m xs → (∀ b, u.ownBlock = some b → (Value.slice A1 g[k].length c1).ownBlock ≠ some b) → wn.ownsRow base e 1 u m xs := fun u m xs e ho hne => by
    obtain ⟨ho1, hr⟩ := ho
    refine ⟨ho1, ?_⟩
    rcases hr with hr | ⟨b, cap', cur, hv, hgb, hh, hrest⟩
    · exact .inl hr
    · refine .inr ⟨b, cap', cur, hv, hgb, (hg.block b (by have := block_lt hh; simp; omega) (fun e => hne b (by rw [hv]; rfl) e.symm)).trans ((heap_alloc_old W o (block_lt hh)).trans hh), hrest⟩
  have hset : ∀ (u : Value) (m : Nat) (xs : List Value), wn.ownsRow base 3 1 u m xs → (wn.setCell ⟨q, k, none⟩ (.slice (some ⟨gg, 0, none⟩) (g[k].length + 1) c2)).ownsRow base 3 1 u m xs := fun u m xs ho => by
    obtain ⟨ho1, hr⟩ := ho
    refine ⟨ho1, ?_⟩
    rcases hr with hr | ⟨b, cap', cur, hv, hgb, hh, hrest⟩
    · exact .inl hr
    · refine .inr ⟨b, cap', cur, hv, hgb, (Below.heap_setCell _ _ _ _ (fun e => ?_)).trans hh, hrest⟩
      simp only at e
      subst e
      rw [hh] at hqn
      injection hqn with hqn
      injection hqn with _ h6
      exact absurd h6 (by decide)
  have hrows : wn.ownsRow base 23 1 (.slice (some ⟨q, 0, none⟩) g.length cap) g.length vs := hkeep _ _ _ _ h2 (fun b hb hb2 => by
    simp [Value.ownBlock] at hb
    subst hb
    exact hqne q hb2 rfl)
  refine ⟨vs.set k (.slice (some ⟨gg, 0, none⟩) (g[k].length + 1) c2), by simpa using h1, by rw [List.length_set]; exact own_put hrows, fun i u r hi hr => ?_, fun i j u1 u2 b hi hj hij hb => ?_⟩
  · rw [List.getElem?_set] at hi hr
    by_cases e : k = i
    · subst e
      rw [if_pos rfl, if_pos hkv] at hi
      rw [if_pos rfl, if_pos hk] at hr
      injection hi with hi
      injection hr with hr
      subst hi hr
      exact hset _ _ _ (by simpa using hown)
    · rw [if_neg e] at hi hr
      exact hset _ _ _ (hkeep _ _ _ _ (h3 i u r hi hr) (fun b hb => fun hb2 => h4 i k u _ b hi e1 (fun e2 => e e2.symm) hb hb2))
  · rw [List.getElem?_set] at hi hj
    have hlt : ∀ (i : Nat) (u : Value), vs[i]? = some u → ∀ b, u.ownBlock = some b → b < W.heap.size := fun i u hi b hb => by
      obtain ⟨hi2, rfl⟩ := List.getElem?_eq_some_iff.1 hi
      have ho := h3 i _ _ hi (List.getElem?_eq_getElem (by omega))
      obtain ⟨_, hr⟩ := ho
      rcases hr with ⟨hv, _⟩ | ⟨b', cap', cur, hv, _, hh, _⟩
      · rw [hv] at hb; simp [Value.ownBlock] at hb
      · rw [hv] at hb
        simp [Value.ownBlock] at hb
        subst hb
        exact block_lt hh
    have hsz : (W.alloc o).heap.size = W.heap.size + 1 := by simp
    by_cases e : k = i
    · subst e
      rw [if_pos rfl, if_pos hkv] at hi
      rw [if_neg (fun e2 => hij e2)] at hj
      injection hi with hi
      subst hi
      simp [Value.ownBlock] at hb
      subst hb
      intro h6
      rcases hat with h7 | h7
      · exact h4 k j _ _ gg e1 hj hij h7 h6
      · have := hlt j u2 hj gg h6
        omega
    · rw [if_neg e] at hi
      by_cases e2 : k = j
      · subst e2
        rw [if_pos rfl, if_pos hkv] at hj
        injection hj with hj
        subst hj
        intro h6
        simp [Value.ownBlock] at h6
        subst h6
        rcases hat with h7 | h7
        · exact h4 i k _ _ gg hi e1 (fun e3 => e e3.symm) hb h7
        · have := hlt i u1 hi gg hb
          omega
      · rw [if_neg e2] at hj
        exact h4 i j u1 u2 b hi hj hij hb
/-- The block of the rows' slices is not touched where a row grows. -/
theorem RowsD.far {W wn : World} {base q n cap k c1 : Nat} {A1 : Option Addr} {g : GraphD} {o : Obj} (h : RowsD W base (.slice (some ⟨q, 0, none⟩) n cap) g) (hk : k < g.length) (hc : W.cell? ⟨q, k, none⟩ = some (.slice A1 g[k].length c1))
    (hg : (W.alloc o).grownBy wn (Value.slice A1 g[k].length c1).ownBlock) (i : Nat) : wn.cell? ⟨q, i, none⟩ = W.cell? ⟨q, i, none⟩ ∧ wn.frozen? ⟨q, i, none⟩ = W.frozen? ⟨q, i, none⟩ := by
  obtain ⟨vs, h1, h2, h3, h4⟩ := h
  have hn : n = g.length := by
    obtain ⟨A, c, hv2, _⟩ := own_is h2
    injection hv2 with _ hn _
  subst hn
  have e1 := List.getElem?_eq_getElem (l := vs) (i := k) (by omega)
  have hu : vs[k] = .slice A1 g[k].length c1 := by
    have := (own_get h2 e1).1
    rw [hc] at this
    injection this with this
    exact this.symm
  rw [hu] at e1
  obtain ⟨csq, hq⟩ := own_row_block h2
  have hown1 := h3 k _ _ e1 (List.getElem?_eq_getElem hk)
  have hqne : (Value.slice A1 g[k].length c1).ownBlock ≠ some q := fun hb => by
    obtain ⟨_, hr⟩ := hown1
    rcases hr with ⟨hv, _⟩ | ⟨g', cap', cur, hv, _, hh, _⟩
    · rw [hv] at hb; simp [Value.ownBlock] at hb
    · rw [hv] at hb
      simp [Value.ownBlock] at hb
      subst hb
      rw [hq] at hh
      injection hh with hh
      injection hh with _ h6
      exact absurd h6 (by decide)
  have hqlt := block_lt hq
  have hb : wn.heap[q]? = W.heap[q]? := (hg.block q (by simp; omega) (fun e => hqne e.symm)).trans (heap_alloc_old W o hqlt)
  exact ⟨World.cell?_of_block (w := W) (a := ⟨q, i, none⟩) hb, World.frozen?_of_block (w := W) (a := ⟨q, i, none⟩) hb⟩
theorem grownBy_drew {w wn : World} {row : Option Nat} (h : w.drew.grownBy wn row) : w.grownBy wn row := ⟨h.os, h.tape, h.output, h.size, h.block⟩
/-- Rows by a function of their number. -/
def rowsF (n : Nat) (f : Nat → List Int) : GraphD := (List.range n).map f
theorem rowsF_length (n : Nat) (f : Nat → List Int) : (rowsF n f).length = n := by simp [rowsF]
theorem rowsF_at {n k : Nat} {f : Nat → List Int} (h : k < (rowsF n f).length) : (rowsF n f)[k] = f k := by simp [rowsF]
theorem rowsF_set {n k : Nat} {f f' : Nat → List Int} {z : List Int} (hz : f' k = z) (hf : ∀ i, i ≠ k → f' i = f i) : (rowsF n f).set k z = rowsF n f' := by
  apply List.ext_getElem?
  intro i
  rw [List.getElem?_set]
  by_cases e : k = i
  · subst e
    by_cases hk : k < n
    · simp [rowsF, hk, hz]
    · simp [rowsF, hk]
  · rw [if_neg e]
    by_cases hi : i < n
    · simp [rowsF, hi, hf i (fun e2 => e e2.symm)]
    · simp [rowsF, hi]
theorem rowsF_congr {n : Nat} {f f' : Nat → List Int} (h : ∀ i, i < n → f i = f' i) : rowsF n f = rowsF n f' := by
  unfold rowsF
  exact List.map_congr_left fun i hi => h i (List.mem_range.1 hi)
theorem rowsF_nil (n : Nat) : rowsF n (fun _ => []) = List.replicate n [] := by simp [rowsF, List.map_const']
end Go.Proofs.Ytfgpenekmokdiaa
namespace Go.Proofs.Ytfgpenekmokdiaa
open Go Go.RowKit Fl

/-- Row i, when vertices before v are through, and m elements of v's row. -/
def woF (g : GraphD) (s : List Bool) (v m i : Nat) : List Int := if i < v then (if atB s i then [] else woRow s (rowG g i)) else if i = v then (if atB s v then [] else woRow s ((rowG g v).take m)) else []
theorem woF_start (g : GraphD) (s : List Bool) : rowsF g.length (woF g s 0 0) = List.replicate g.length [] := by
  rw [← rowsF_nil]
  refine rowsF_congr fun i _ => ?_
  unfold woF
  rw [if_neg (show ¬ i < 0 by omega)]
  split
  · split
    · rfl
    · simp [woRow]
  · rfl
theorem woF_next {g : GraphD} {s : List Bool} {v m : Nat} (hm : (rowG g v).length ≤ m) : rowsF g.length (woF g s v m) = rowsF g.length (woF g s (v + 1) 0) := by
  refine rowsF_congr fun i _ => ?_
  unfold woF
  by_cases h1 : i < v
  · rw [if_pos h1, if_pos (show i < v + 1 by omega)]
  · by_cases h2 : i = v
    · subst h2
      rw [if_neg h1, if_pos rfl, if_pos (show i < i + 1 by omega), List.take_of_length_le hm]
    · rw [if_neg h1, if_neg h2, if_neg (show ¬ i < v + 1 by omega)]
      split
      · split
        · rfl
        · simp [woRow]
      · rfl
theorem woF_end (g : GraphD) (s : List Bool) : rowsF g.length (woF g s g.length 0) = woG g s := by
  unfold woG rowsF
  refine List.map_congr_left fun i hi => ?_
  unfold woF
  rw [if_pos (List.mem_range.1 hi)]
theorem woF_skip {g : GraphD} {s : List Bool} {v m : Nat} (h : atB s v = true ∨ ∀ (hm : m < (rowG g v).length), atB s (rowG g v)[m].toNat = true) : rowsF g.length (woF g s v (m + 1)) = rowsF g.length (woF g s v m) := by
  refine rowsF_congr fun i _ => ?_
  unfold woF
  by_cases h1 : i < v
  · rw [if_pos h1, if_pos h1]
  · by_cases h2 : i = v
    · rw [if_neg h1, if_pos h2, if_neg h1, if_pos h2]
      rcases h with h | h
      · rw [if_pos h, if_pos h]
      · congr 1
        by_cases hm : m < (rowG g v).length
        · unfold woRow
          rw [List.take_succ_eq_append_getElem hm, List.filter_append]
          simp [h hm]
        · rw [List.take_of_length_le (by omega), List.take_of_length_le (by omega)]
    · rw [if_neg h1, if_neg h2, if_neg h1, if_neg h2]
theorem woF_put {g : GraphD} {s : List Bool} {v m : Nat} {x : Int} (hv : atB s v = false) (hm : m < (rowG g v).length) (hx : (rowG g v)[m] = x) (hs : atB s x.toNat = false) (hvg : v < (rowsF g.length (woF g s v m)).length) : (rowsF g.length (woF g s v m)).set v ((rowsF g.length (woF g s v m))[v] ++ [x]) = rowsF g.length (woF g s v (m + 1)) := by
  rw [rowsF_at]
  refine rowsF_set ?_ fun i hi => ?_
  · unfold woF
    rw [if_neg (show ¬ v < v by omega), if_pos rfl, if_neg (show ¬ v < v by omega), if_pos rfl, hv]
    unfold woRow
    rw [List.take_succ_eq_append_getElem hm, List.filter_append, hx]
    simp [hs]
  · unfold woF
    by_cases h1 : i < v
    · rw [if_pos h1, if_pos h1]
    · rw [if_neg h1, if_neg hi, if_neg h1, if_neg hi]
/-- What Without returns. -/
def WoPost (w : World) (l : GraphD) (k : Int) (e : Ending) (w' : World) : Prop := ∃ u, e = .returned (.tuple #[u, .int .i64 k]) ∧ RowsOwn w' w.heap.size u l ∧ Below w.heap.size w w'
def woL (g : GraphD) (s : List Bool) : GraphD := if chkG g s.length = 0 then woG g s else []
theorem rowsOwn_nil (w : World) (base : Nat) : RowsOwn w base (.slice none 0 0) [] := ⟨[], rfl, World.ownsRow_nil _ _ _ _, fun k u r h => by simp at h⟩
theorem woF_short {g : GraphD} {s : List Bool} (hg : validG g = true) (v m i : Nat) : (woF g s v m i).length ≤ 24 := by
  have key : ∀ j, (rowG g j).length ≤ 24 := fun j => by
    rcases Nat.lt_or_ge j g.length with h | h
    · rw [rowG_at h]; exact validG_short hg _ (List.getElem_mem h)
    · rw [rowG_out h]; simp
  unfold woF
  split
  · split
    · simp
    · exact Nat.le_trans (List.length_filter_le _ _) (key i)
  · split
    · split
      · simp
      · exact Nat.le_trans (List.length_filter_le _ _) (Nat.le_trans (List.length_take_le' _ _) (key v))
    · simp
theorem size_alloc_drew {w : World} {B : Nat} (h : B ≤ w.heap.size) (o : Obj) : B ≤ ((w.alloc o).drew).heap.size := by
  have e : (w.alloc o).heap.size = w.heap.size + 1 := by simp
  show B ≤ (w.alloc o).heap.size
  omega
end Go.Proofs.Ytfgpenekmokdiaa
namespace Go.Proofs.Ytfgpenekmokdiaa
open Go Go.RowKit Fl

/-- Row x, when vertices before v are through, and m elements of v's row. -/
def revF (g : GraphD) (v m x : Nat) : List Int := intoK g v x ++ (if (x : Int) ∈ (rowG g v).take m then [(v : Int)] else [])
theorem intoK_succ (g : GraphD) (v x : Nat) : intoK g (v + 1) x = intoK g v x ++ (if (x : Int) ∈ rowG g v then [(v : Int)] else []) := by
  unfold intoK
  rw [List.range_succ, List.filter_append, List.map_append]
  congr 1
  by_cases h : (x : Int) ∈ rowG g v
  · simp [h]
  · simp [h]
theorem intoK_short (g : GraphD) (v x : Nat) : (intoK g v x).length ≤ v := by
  unfold intoK
  rw [List.length_map]
  exact Nat.le_trans (List.length_filter_le _ _) (by simp)
theorem revF_start (g : GraphD) : rowsF g.length (revF g 0 0) = List.replicate g.length [] := by
  rw [← rowsF_nil]
  exact rowsF_congr fun i _ => by simp [revF, intoK]
theorem revF_next {g : GraphD} {v m : Nat} (hm : (rowG g v).length ≤ m) : rowsF g.length (revF g v m) = rowsF g.length (revF g (v + 1) 0) := by
  refine rowsF_congr fun i _ => ?_
  unfold revF
  rw [intoK_succ, List.take_of_length_le hm]
  simp
theorem revF_end (g : GraphD) : rowsF g.length (revF g g.length 0) = revG g := by
  unfold revG rowsF
  exact List.map_congr_left fun i _ => by simp [revF]
theorem revF_put {g : GraphD} {v m y : Nat} (hg : validG g = true) (hv : v < g.length) (hm : m < (rowG g v).length) (hx : (rowG g v)[m] = (y : Int)) (hyg : y < (rowsF g.length (revF g v m)).length) : (rowsF g.length (revF g v m)).set y ((rowsF g.length (revF g v m))[y] ++ [(v : Int)]) = rowsF g.length (revF g v (m + 1)) := by
  rw [rowsF_at]
  have hs : (rowG g v).Pairwise (· < ·) := by rw [rowG_at hv]; exact validG_sorted' hg hv
  refine rowsF_set ?_ fun i hi => ?_
  · unfold revF
    have hn : (y : Int) ∉ (rowG g v).take m := fun h => by
      obtain ⟨j, hj, e⟩ := List.mem_iff_getElem.1 h
      rw [List.getElem_take] at e
      have hjm : j < m := by rw [List.length_take] at hj; omega
      have := List.pairwise_iff_getElem.1 hs j m (by omega) hm hjm
      omega
    rw [List.take_succ_eq_append_getElem hm, hx, if_neg hn, if_pos (by simp)]
    simp
  · unfold revF
    rw [List.take_succ_eq_append_getElem hm, hx]
    have hne : (i : Int) ≠ y := by omega
    congr 1
    by_cases h : (i : Int) ∈ (rowG g v).take m
    · rw [if_pos h, if_pos (by simp [h])]
    · rw [if_neg h, if_neg (by simp [h, hne])]
theorem revF_short (g : GraphD) (v m x : Nat) : (revF g v m x).length ≤ v + 1 := by
  unfold revF
  have := intoK_short g v x
  rw [List.length_append]
  split <;> simp <;> omega
def revL (g : GraphD) : GraphD := if validG g then revG g else []
def revE (g : GraphD) : Int := if validG g then 0 else 20
end Go.Proofs.Ytfgpenekmokdiaa
namespace Go.Proofs.Ytfgpenekmokdiaa
open Go Go.RowKit Fl

def FromRes (w : World) (l : List Bool) (k : Int) (e : Ending) (w' : World) : Prop := ∃ A c, e = .returned (.tuple #[.slice A l.length c, .int .i64 k]) ∧ Holds w' A (l.map Bo) ∧ Below w.heap.size w w'
def GraphRes (w : World) (l : GraphD) (k : Int) (e : Ending) (w' : World) : Prop := ∃ A c, e = .returned (.tuple #[.slice A l.length c, .int .i64 k]) ∧ RowsAt w' A l ∧ Below w.heap.size w w'
def Sized (g : GraphD) : Prop := g.length ≤ 1000000000000000000 ∧ ∀ r ∈ g, r.length ≤ 1000000000000000000
theorem Sized.valid {g : GraphD} (h : validG g = true) : Sized g := ⟨by have := validG_len h; omega, fun r hr => by have := validG_short h r hr; omega⟩
def DevFrom : Prop := ∀ (A B : Option Addr) (c d : Nat) (g : GraphD) (s : List Bool) (v : Int) (w : World), RowsAt w A g → Holds w B (s.map Bo) → Sized g →
  Calls Try.prog 31 #[.slice A g.length c, .slice B s.length d, .int .i64 v] w (FromRes w (fromL g s v) (fromE g s.length v))
def DevValid : Prop := ∀ (A : Option Addr) (c : Nat) (g : GraphD) (w : World), RowsAt w A g → Sized g →
  Calls Try.prog 47 #[.slice A g.length c] w fun e w' => e = .returned (.bool (validG g)) ∧ Below w.heap.size w w'
def DevReverse : Prop := ∀ (A : Option Addr) (c : Nat) (g : GraphD) (w : World), RowsAt w A g → Sized g →
  Calls Try.prog 72 #[.slice A g.length c] w (GraphRes w (revL g) (revE g))
def DevWithout : Prop := ∀ (A B : Option Addr) (c d : Nat) (g : GraphD) (s : List Bool) (w : World), RowsAt w A g → Holds w B (s.map Bo) → Sized g →
  Calls Try.prog 71 #[.slice A g.length c, .slice B s.length d] w (GraphRes w (woL g s) (chkG g s.length))
end Go.Proofs.Ytfgpenekmokdiaa
