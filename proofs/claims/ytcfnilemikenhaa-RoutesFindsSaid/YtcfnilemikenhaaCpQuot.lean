/- Contract of the reference's Quotient of layer 5. -/
import Derived.Test.YtcfnilemikenhaaCpOrder
import Derived.Test.YtcfnilemikenhaaRcRows
namespace Go.Proofs.Ytcfnilemikenhaa
open Go Go.RowKit Fl

open Classical in
noncomputable def quoL (g : GraphD) (s : List Bool) : GraphD := if chkG g s.length = 0 then quotL g s else []
/-- z comes to row a by the edges of the vertices before v, and the first m of v's. -/
def qMem (g : GraphD) (s : List Bool) (v m a : Nat) (z : Int) : Prop := ∃ (u j : Nat) (x : Nat) (h : j < (rowG g u).length), (u < v ∨ (u = v ∧ j < m)) ∧ (rowG g u)[j] = (x : Int) ∧ nameOf g s u = a ∧ nameOf g s x = z ∧ 0 ≤ z ∧ z ≠ a
open Classical in
noncomputable def qF (g : GraphD) (s : List Bool) (v m a : Nat) : List Int := ((List.range g.length).filter (fun (b : Nat) => decide (qMem g s v m a b))).map (fun (b : Nat) => (b : Int))
theorem qF_mem {g : GraphD} {s : List Bool} {v m a : Nat} {z : Int} : z ∈ qF g s v m a ↔ qMem g s v m a z := by
  classical
  unfold qF
  rw [List.mem_map]
  constructor
  · rintro ⟨b, hb, rfl⟩
    have := (List.mem_filter.1 hb).2
    simpa using this
  · intro h
    have h0 := h
    obtain ⟨u, j, x, hj, _, _, _, hx, hz, _⟩ := h
    obtain ⟨b, rfl⟩ := Int.eq_ofNat_of_zero_le hz
    exact ⟨b, List.mem_filter.2 ⟨List.mem_range.2 (name_name hx).2.1, by simpa using h0⟩, rfl⟩
theorem qF_sorted (g : GraphD) (s : List Bool) (v m a : Nat) : (qF g s v m a).Pairwise (· < ·) := by
  unfold qF
  rw [List.pairwise_map]
  refine List.Pairwise.imp (fun h => ?_) (List.Pairwise.filter _ (List.pairwise_lt_range))
  omega
theorem qF_short (g : GraphD) (s : List Bool) (v m a : Nat) : (qF g s v m a).length ≤ g.length := by
  unfold qF
  rw [List.length_map]
  exact Nat.le_trans (List.length_filter_le _ _) (by simp)
theorem qF_ext {g : GraphD} {s : List Bool} {v m v' m' a : Nat} (h : ∀ z, qMem g s v m a z ↔ qMem g s v' m' a z) : qF g s v m a = qF g s v' m' a :=
  sorted_ext (qF_sorted _ _ _ _ _) (qF_sorted _ _ _ _ _) fun z => by rw [qF_mem, qF_mem]; exact h z
theorem qF_start (g : GraphD) (s : List Bool) : rowsF g.length (qF g s 0 0) = List.replicate g.length [] := by
  rw [← rowsF_nil]
  refine rowsF_congr fun i _ => ?_
  refine List.eq_nil_iff_forall_not_mem.2 fun z hz => ?_
  obtain ⟨u, j, x, hj, h, _⟩ := qF_mem.1 hz
  omega
theorem qF_next {g : GraphD} {s : List Bool} {v m : Nat} (hm : (rowG g v).length ≤ m) : rowsF g.length (qF g s v m) = rowsF g.length (qF g s (v + 1) 0) := rowsF_congr fun i _ => qF_ext fun z => by
  constructor
  · rintro ⟨u, j, x, hj, h, h2⟩
    exact ⟨u, j, x, hj, by rcases h with h | ⟨rfl, _⟩ <;> omega, h2⟩
  · rintro ⟨u, j, x, hj, h, h2⟩
    refine ⟨u, j, x, hj, ?_, h2⟩
    rcases h with h | ⟨_, h⟩
    · rcases Nat.lt_succ_iff_lt_or_eq.1 h with h | rfl
      · exact .inl h
      · exact .inr ⟨rfl, by omega⟩
    · omega
theorem qF_end (g : GraphD) (s : List Bool) : rowsF g.length (qF g s g.length 0) = quotL g s := by
  unfold quotL rowsF
  refine List.map_congr_left fun a _ => ?_
  refine sorted_ext (qF_sorted _ _ _ _ _) (quotRow_sorted _ _ _) fun z => ?_
  rw [qF_mem, quotRow_mem]
  constructor
  · rintro ⟨u, j, x, hj, _, h1, h2⟩
    exact ⟨u, x, by unfold EdgeG; rw [← h1]; exact List.getElem_mem hj, h2⟩
  · rintro ⟨u, x, he, h2⟩
    unfold EdgeG at he
    obtain ⟨j, hj, e⟩ := List.mem_iff_getElem.1 he
    refine ⟨u, j, x, hj, .inl ?_, e, h2⟩
    rcases Nat.lt_or_ge u g.length with h | h
    · exact h
    · rw [rowG_out h] at hj; simp at hj
theorem qMem_succ {g : GraphD} {s : List Bool} {v m y a : Nat} {z : Int} (hm : m < (rowG g v).length) (hy : (rowG g v)[m] = (y : Int)) : qMem g s v (m + 1) a z ↔ qMem g s v m a z ∨ (nameOf g s v = a ∧ nameOf g s y = z ∧ 0 ≤ z ∧ z ≠ a) := by
  constructor
  · rintro ⟨u, j, x, hj, h, h1, h2⟩
    rcases h with h | ⟨rfl, h⟩
    · exact .inl ⟨u, j, x, hj, .inl h, h1, h2⟩
    · rcases Nat.lt_succ_iff_lt_or_eq.1 h with h | rfl
      · exact .inl ⟨u, j, x, hj, .inr ⟨rfl, h⟩, h1, h2⟩
      · right
        have : x = y := by omega
        subst this
        exact h2
  · rintro (⟨u, j, x, hj, h, h2⟩ | h)
    · exact ⟨u, j, x, hj, by omega, h2⟩
    · exact ⟨v, m, y, hm, .inr ⟨rfl, by omega⟩, hy, h⟩
/-- An edge that adds nothing. -/
theorem qF_skip {g : GraphD} {s : List Bool} {v m y : Nat} (hm : m < (rowG g v).length) (hy : (rowG g v)[m] = (y : Int)) (hn : ∀ a : Nat, nameOf g s v = a → 0 ≤ nameOf g s y → nameOf g s y ≠ a → nameOf g s y ∈ qF g s v m a) : rowsF g.length (qF g s v (m + 1)) = rowsF g.length (qF g s v m) := rowsF_congr fun a _ => qF_ext fun z => by
  rw [qMem_succ hm hy]
  constructor
  · rintro (h | ⟨h1, rfl, h3, h4⟩)
    · exact h
    · exact qF_mem.1 (hn a h1 h3 h4)
  · exact .inl
/-- An edge that adds a name. -/
theorem qF_put {g : GraphD} {s : List Bool} {v m y a : Nat} {z : Int} (hm : m < (rowG g v).length) (hy : (rowG g v)[m] = (y : Int)) (ha : nameOf g s v = a) (hz : nameOf g s y = z) (h0 : 0 ≤ z) (hne : z ≠ a) (hno : z ∉ qF g s v m a) : (rowsF g.length (qF g s v m)).set a (insL (qF g s v m a) z) = rowsF g.length (qF g s v (m + 1)) := by
  refine rowsF_set ?_ fun i hi => qF_ext fun x => ?_
  · refine sorted_ext (qF_sorted _ _ _ _ _) (insL_sorted (qF_sorted _ _ _ _ _) hno) fun x => ?_
    rw [qF_mem, qMem_succ hm hy, insL_mem, qF_mem]
    constructor
    · rintro (h | ⟨_, h1, _⟩)
      · exact .inr h
      · exact .inl (by rw [← h1, hz])
    · rintro (rfl | h)
      · exact .inr ⟨ha, hz, h0, hne⟩
      · exact .inl h
  · rw [qMem_succ hm hy]
    constructor
    · rintro (h | ⟨h1, _⟩)
      · exact h
      · omega
    · exact .inl
theorem own_lo {w : World} {base base' n : Nat} {e : TypeId} {v : Value} {xs : List Value} (h : w.ownsRow base e 1 v n xs) (hb : base' ≤ base) : w.ownsRow base' e 1 v n xs := by
  obtain ⟨h1, h2⟩ := h
  refine ⟨h1, ?_⟩
  rcases h2 with h2 | ⟨g, cap, cur, hv, hg, hr⟩
  · exact .inl h2
  · exact .inr ⟨g, cap, cur, hv, Nat.le_trans hb hg, hr⟩
theorem RowsOwn.putN {w : World} {base q cap k n : Nat} {g : GraphD} {u : Value} {r : List Int} (hn : g.length = n) (h : RowsOwn w base (.slice (some ⟨q, 0, none⟩) n cap) g) (hr : w.ownsRow base 3 1 u r.length (r.map Iv)) : RowsOwn (w.setCell ⟨q, k, none⟩ u) base (.slice (some ⟨q, 0, none⟩) n cap) (g.set k r) := by
  subst hn
  exact h.put hr rfl
theorem RowsOwn.low {w : World} {base base' : Nat} {v : Value} {g : GraphD} (h : RowsOwn w base v g) (hb : base' ≤ base) : RowsOwn w base' v g := by
  obtain ⟨vs, h1, h2, h3⟩ := h
  exact ⟨vs, h1, own_lo h2 hb, fun k u r hk hr => own_lo (h3 k u r hk hr) hb⟩
theorem rowsO_nil (w : World) (base : Nat) : RowsOwn w base (.slice none 0 0) [] := ⟨[], rfl, World.ownsRow_nil _ _ _ _, fun k u r h => by simp at h⟩
/-- What Quotient returns. -/
def RowsPost (w : World) (l : GraphD) (k : Int) (e : Ending) (w' : World) : Prop := ∃ u, e = .returned (.tuple #[u, .int .i64 k]) ∧ RowsOwn w' w.heap.size u l ∧ Below w.heap.size w w'
end Go.Proofs.Ytcfnilemikenhaa
