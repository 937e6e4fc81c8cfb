/- Contracts of the statements' Graph and Shut: they make a valid graph and marks for its vertices. -/
import Derived.Test.YtjbhmeeebacnpaaGrHas
import Derived.Test.YtjbhmeeebacnpaaRcSpec
import Derived.Test.YtjbhmeeebacnpaaTape
namespace Go.Proofs.Ytjbhmeeebacnpaa
open Go Go.RowKit Fl

theorem insL_sorted : ∀ {l : List Int} {x : Int}, l.Pairwise (· < ·) → x ∉ l → (insL l x).Pairwise (· < ·)
  | [], x, _, _ => by simp [insL]
  | y :: l, x, h, hx => by
    have h1 := List.pairwise_cons.1 h
    have hxy : x ≠ y := fun e => hx (by simp [e])
    have hxl : x ∉ l := fun e => hx (by simp [e])
    unfold insL
    split
    · refine .cons (fun z hz => ?_) h
      rcases List.mem_cons.1 hz with rfl | hz
      · assumption
      · have := h1.1 z hz; omega
    · refine .cons (fun z hz => ?_) (insL_sorted h1.2 hxl)
      rcases (insL_mem l x z).1 hz with rfl | hz
      · omega
      · exact h1.1 z hz
/-- Graphs as they are made: n vertices, rows ascending, to other vertices. -/
structure GrOk (n : Nat) (g : GraphD) : Prop where
  len : g.length = n
  sorted : ∀ r ∈ g, r.Pairwise (· < ·)
  range : ∀ (k : Nat) (hk : k < g.length), ∀ x ∈ g[k], 0 ≤ x ∧ x < n ∧ x ≠ k
theorem GrOk.valid {n : Nat} {g : GraphD} (h : GrOk n g) (hn : n ≤ 24) : validG g = true :=
  validG_mk (by rw [h.len]; exact hn) (fun k hk => h.sorted _ (List.getElem_mem hk)) (fun k hk x hx => by have := h.range k hk x hx; rw [h.len]; exact this)
theorem grOk_empty (n : Nat) : GrOk n (List.replicate n []) :=
  ⟨by simp, fun r hr => by rw [List.eq_of_mem_replicate hr]; exact .nil, fun k hk x hx => by simp at hx⟩
theorem GrOk.put {n : Nat} {g : GraphD} (h : GrOk n g) {v : Nat} {x : Int} (hv : v < g.length) (hx : 0 ≤ x ∧ x < n ∧ x ≠ v) (hn : x ∉ g[v]) : GrOk n (g.set v (insL g[v] x)) := by
  refine ⟨by simpa using h.len, fun r hr => ?_, fun k hk y hy => ?_⟩
  · rcases List.mem_or_eq_of_mem_set hr with hr | rfl
    · exact h.sorted r hr
    · exact insL_sorted (h.sorted _ (List.getElem_mem hv)) hn
  · rw [List.getElem_set] at hy
    split at hy
    · rename_i e
      subst e
      rcases (insL_mem _ _ _).1 hy with rfl | hy
      · exact hx
      · exact h.range v hv y hy
    · exact h.range k (by simpa using hk) y hy
/-- Rows of the call's own: the slice v holds slices that hold the rows of g, all of them in memory from block base on. -/
def RowsOwn (w : World) (base : Nat) (v : Value) (g : GraphD) : Prop :=
  ∃ vs : List Value, vs.length = g.length ∧ w.ownsRow base 25 1 v g.length vs ∧ ∀ (k : Nat) (u : Value) (r : List Int), vs[k]? = some u → g[k]? = some r → w.ownsRow base 3 1 u r.length (r.map Iv)
theorem RowsOwn.keep {w w' : World} {base : Nat} {v : Value} {g : GraphD} (h : RowsOwn w base v g) (hb : Below w.heap.size w w') : RowsOwn w' base v g := by
  obtain ⟨vs, h1, h2, h3⟩ := h
  exact ⟨vs, h1, ownsRow_below h2 hb, fun k u r hk hr => ownsRow_below (h3 k u r hk hr) hb⟩
theorem RowsOwn.but {w w' : World} {base q : Nat} {v : Value} {g : GraphD} (h : RowsOwn w base v g) (hw : w.grownBy w' (some q)) (hq : q < base) : RowsOwn w' base v g := by
  have key : ∀ {e : TypeId} {n : Nat} {u : Value} {xs : List Value}, w.ownsRow base e 1 u n xs → w'.ownsRow base e 1 u n xs := fun h => by
    obtain ⟨h1, hr⟩ := h
    refine ⟨h1, ?_⟩
    rcases hr with hr | ⟨b, cap, cur, hv, hgb, hh, hrest⟩
    · exact .inl hr
    · exact .inr ⟨b, cap, cur, hv, hgb, (hw.block b (block_lt hh) (fun e => by injection e with e; omega)).trans hh, hrest⟩
  obtain ⟨vs, h1, h2, h3⟩ := h
  exact ⟨vs, h1, key h2, fun k u r hk hr => key (h3 k u r hk hr)⟩
theorem RowsOwn.at_ {w : World} {base : Nat} {v : Value} {g : GraphD} (h : RowsOwn w base v g) : ∃ A c, v = .slice A g.length c ∧ RowsAt w A g := by
  obtain ⟨vs, h1, h2, h3⟩ := h
  obtain ⟨A, c, rfl, hh⟩ := own_is h2
  refine ⟨A, c, rfl, ?_⟩
  rcases Nat.eq_zero_or_pos g.length with h0 | h0
  · exact .inl (List.eq_nil_of_length_eq_zero h0)
  · obtain ⟨b, o, rfl, hlt, hc⟩ := hh.at_ (by omega)
    refine .inr ⟨b, o, rfl, hlt, fun k hk => ?_⟩
    have e1 := List.getElem?_eq_getElem (l := vs) (i := k) (by omega)
    have e2 := List.getElem?_eq_getElem hk
    have h4 := h3 k _ _ e1 e2
    obtain ⟨A1, c1, hv, h5⟩ := own_is h4
    refine ⟨A1, c1, ?_, h5⟩
    rw [hc k (by omega), hv]
/-- A row is put into the place of another one. -/
theorem RowsOwn.put {w w' : World} {base q cap k : Nat} {g : GraphD} {u : Value} {r : List Int} (h : RowsOwn w base (.slice (some ⟨q, 0, none⟩) g.length cap) g) (hr : w.ownsRow base 3 1 u r.length (r.map Iv)) (hw : w' = w.setCell ⟨q, k, none⟩ u) : RowsOwn w' base (.slice (some ⟨q, 0, none⟩) g.length cap) (g.set k r) := by
  subst hw
  obtain ⟨vs, h1, h2, h3⟩ := h
  have hq : ∃ cs, w.heap[q]? = some (.cells cs 25 (0, 0)) := by
    obtain ⟨_, h⟩ := h2
    rcases h with ⟨hv, _⟩ | ⟨g', cap', cur, hv, _, hh, _⟩
    · cases hv
    · injection hv with hA _ _
      injection hA with hA
      injection hA with hA
      subst hA
      exact ⟨cur, hh⟩
  obtain ⟨cs, hq⟩ := hq
  have key : ∀ {n : Nat} {u' : Value} {xs : List Value}, w.ownsRow base 3 1 u' n xs → (w.setCell ⟨q, k, none⟩ u).ownsRow base 3 1 u' n xs := fun h => by
    obtain ⟨h1, hr⟩ := h
    refine ⟨h1, ?_⟩
    rcases hr with hr | ⟨b, cap, cur, hv, hgb, hh, hrest⟩
    · exact .inl hr
    · refine .inr ⟨b, cap, cur, hv, hgb, (Below.heap_setCell _ _ _ _ (fun e => ?_)).trans hh, hrest⟩
      simp only at e
      subst e
      rw [hh] at hq
      injection hq with hq
      injection hq with _ h2
      exact absurd h2 (by decide)
  refine ⟨vs.set k u, by simpa using h1, by rw [List.length_set]; exact own_put h2, fun i u' r' hi hr' => ?_⟩
  rw [List.getElem?_set] at hi hr'
  by_cases e : k = i
  · subst e
    rw [if_pos rfl] at hi hr'
    split at hi
    · split at hr'
      · injection hi with hi
        injection hr' with hr'
        subst hi hr'
        exact key hr
      · cases hr'
    · cases hi
  · rw [if_neg e] at hi hr'
    exact key (h3 i u' r' hi hr')
theorem RowsOwn.cell {w : World} {base q n cap k : Nat} {g : GraphD} (h : RowsOwn w base (.slice (some ⟨q, 0, none⟩) n cap) g) (hk : k < g.length) : ∃ A1 c1, w.cell? ⟨q, k, none⟩ = some (.slice A1 g[k].length c1) ∧ w.frozen? ⟨q, k, none⟩ = false ∧ Holds w A1 (g[k].map Iv) := by
  obtain ⟨vs, h1, h2, h3⟩ := h
  have e1 := List.getElem?_eq_getElem (l := vs) (i := k) (by omega)
  obtain ⟨A1, c1, hv, h5⟩ := own_is (h3 k _ _ e1 (List.getElem?_eq_getElem hk))
  have hn : n = g.length := by
    obtain ⟨A, c, hv2, _⟩ := own_is h2
    injection hv2 with _ hn _
  subst hn
  obtain ⟨c2, c3⟩ := own_get h2 e1
  exact ⟨A1, c1, by rw [c2, hv], c3, h5⟩
/-- Below block U, but for block g, the world is as it was. -/
structure Still (g U : Nat) (w w' : World) : Prop where
  os : w'.os = w.os
  tape : w'.tape = w.tape
  output : w'.output = w.output
  size : w.heap.size ≤ w'.heap.size
  block : ∀ k, k < U → k ≠ g → w'.heap[k]? = w.heap[k]?
theorem Still.refl (g U : Nat) (w : World) : Still g U w w := ⟨rfl, rfl, rfl, Nat.le_refl _, fun _ _ _ => rfl⟩
theorem Still.trans {g U : Nat} {a b c : World} (h : Still g U a b) (k : Still g U b c) : Still g U a c :=
  ⟨k.os.trans h.os, k.tape.trans h.tape, k.output.trans h.output, Nat.le_trans h.size k.size, fun i hi hg => (k.block i hi hg).trans (h.block i hi hg)⟩
theorem Still.of_below {g U : Nat} {a b : World} (h : Below U a b) : Still g U a b := ⟨h.os, h.tape, h.output, h.size, fun k hk _ => h.block k hk⟩
theorem Still.of_grown {g U : Nat} {a b : World} (hg : a.grownBy b (some g)) (hU : U ≤ a.heap.size) : Still g U a b :=
  ⟨hg.os, hg.tape, hg.output, hg.size, fun k hk hne => hg.block k (by omega) (fun e => by injection e with e; omega)⟩
theorem Still.below {g U B : Nat} {a b : World} (h : Still g U a b) (hB : B ≤ U) (hg : B ≤ g) : Below B a b := ⟨h.os, h.tape, h.output, h.size, fun k hk => h.block k (by omega) (by omega)⟩
theorem Try.infoRowG : (Try.prog.info? 25).map (fun i => (i.zero, i.size, i.bytes)) = some (some (.slice none 0 0), 1, 24) := by kernel_rfl
theorem rowsOwn_new {w : World} {base q n : Nat} (h : w.ownsRow base 25 1 (.slice (some ⟨q, 0, none⟩) n n) n (List.replicate n (.slice none 0 0))) : RowsOwn w base (.slice (some ⟨q, 0, none⟩) n n) (List.replicate n []) := by
  refine ⟨List.replicate n (.slice none 0 0), by simp, by simpa using h, fun k u r hk hr => ?_⟩
  rw [List.getElem?_replicate] at hk hr
  by_cases hkn : k < n
  · rw [if_pos hkn] at hk hr
    injection hk with hk
    injection hr with hr
    subst hk hr
    exact World.ownsRow_nil _ _ _ _
  · rw [if_neg hkn] at hk
    cases hk
/-- What Graph returns. -/
def GraphPost (w : World) (B gt T most : Nat) (e : Ending) (w' : World) : Prop := ∃ (v : Value) (g : GraphD), e = .returned v ∧ g.length ≤ most ∧ GrOk g.length g ∧ RowsOwn w' w.heap.size v g ∧ TapeOk w' B gt (T + 1000) ∧ Still gt w.heap.size w w'
end Go.Proofs.Ytjbhmeeebacnpaa
