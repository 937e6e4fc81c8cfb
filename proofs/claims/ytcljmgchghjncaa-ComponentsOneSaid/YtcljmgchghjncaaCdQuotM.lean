/- The edges between components and the counts for their order; rows that are sorted and shortened in place. -/
import Derived.Test.YtcljmgchghjncaaCpNames
import Derived.Test.YtcljmgchghjncaaCdPure
import Derived.Lib.SlicesCompact
import Derived.Test.YtcljmgchghjncaaCdNames
import Derived.Test.YtcljmgchghjncaaRcRows
import Derived.Test.YtcljmgchghjncaaCdMem
namespace Go.Proofs.Ytcljmgchghjncaa
open Go Go.RowKit Fl

theorem le_all {l : List Int} (h : l.Pairwise (· ≤ ·)) {i j : Nat} (hj : j < l.length) (hij : i ≤ j) : l[i] ≤ l[j] := by
  rcases Nat.lt_or_ge i j with h1 | h1
  · exact List.pairwise_iff_getElem.1 h i j (by omega) hj h1
  · obtain rfl : i = j := by omega
    exact Int.le_refl _
theorem arr_get {l : List Int} {j : Nat} (hj : j < l.length) : l.toArray[j]! = l[j] := by
  rw [getElem!_pos _ j (by simpa using hj)]
  simp
theorem compact_upto {l : List Int} (h : l.Pairwise (· ≤ ·)) : ∀ m, m ≤ l.length → (Lib.compactUpTo l.toArray m).Pairwise (· < ·) ∧ (∀ z ∈ Lib.compactUpTo l.toArray m, ∃ (j : Nat) (hj : j < l.length), j < m ∧ l[j] = z) ∧ ∀ (j : Nat) (hj : j < l.length), j < m → l[j] ∈ Lib.compactUpTo l.toArray m
  | 0, _ => by
    have e : Lib.compactUpTo l.toArray 0 = [] := rfl
    rw [e]
    exact ⟨.nil, fun z hz => by simp at hz, fun j _ hj => by omega⟩
  | m + 1, hm => by
    obtain ⟨h1, h2, h3⟩ := compact_upto h m (by omega)
    have hml : m < l.length := hm
    have hget := arr_get hml
    rw [Lib.compactUpTo_succ]
    by_cases hk : Lib.keeps l.toArray m = true
    · rw [if_pos hk, hget]
      refine ⟨?_, fun z hz => ?_, fun j hj hjm => ?_⟩
      · rw [List.pairwise_append]
        refine ⟨h1, List.pairwise_singleton _ _, fun a ha b hb => ?_⟩
        simp at hb
        subst hb
        obtain ⟨j, hj, hjm, rfl⟩ := h2 a ha
        have h4 : l[j] ≤ l[m - 1] := le_all h (by omega) (by omega)
        have h5 : l[m - 1] ≤ l[m] := le_all h hml (by omega)
        have h6 : l[m] ≠ l[m - 1] := fun e => by
          rw [Lib.keeps_neg (by omega) (by rw [hget, arr_get (show m - 1 < l.length by omega)]; exact e)] at hk
          cases hk
        omega
      · rcases List.mem_append.1 hz with hz | hz
        · obtain ⟨j, hj, hjm, e⟩ := h2 z hz
          exact ⟨j, hj, by omega, e⟩
        · simp at hz
          exact ⟨m, hml, by omega, hz.symm⟩
      · rcases Nat.lt_succ_iff_lt_or_eq.1 hjm with h4 | rfl
        · exact List.mem_append_left _ (h3 j hj h4)
        · simp
    · rw [if_neg hk, List.append_nil]
      refine ⟨h1, fun z hz => ?_, fun j hj hjm => ?_⟩
      · obtain ⟨j, hj, hjm, e⟩ := h2 z hz
        exact ⟨j, hj, by omega, e⟩
      · rcases Nat.lt_succ_iff_lt_or_eq.1 hjm with h4 | rfl
        · exact h3 j hj h4
        · have hm0 : 0 < j := by
            rcases Nat.eq_zero_or_pos j with e | e
            · subst e
              exact absurd (Lib.keeps_lt_one l.toArray 0 (by omega)) hk
            · exact e
          have e : l[j] = l[j - 1] := Classical.byContradiction fun hne => hk (Lib.keeps_pos (by rw [hget, arr_get (show j - 1 < l.length by omega)]; exact hne))
          rw [e]
          exact h3 (j - 1) (by omega) (by omega)
theorem compact_sorted {l : List Int} (h : l.Pairwise (· ≤ ·)) : (Lib.compact l).Pairwise (· < ·) ∧ ∀ z, z ∈ Lib.compact l ↔ z ∈ l := by
  obtain ⟨h1, h2, h3⟩ := compact_upto h l.length (Nat.le_refl _)
  refine ⟨h1, fun z => ⟨fun hz => ?_, fun hz => ?_⟩⟩
  · obtain ⟨j, hj, _, rfl⟩ := h2 z hz
    exact List.getElem_mem hj
  · obtain ⟨j, hj, rfl⟩ := List.mem_iff_getElem.1 hz
    exact h3 j hj hj
theorem sort_sorted (l : List Int) : (l.mergeSort fun x y => decide (x ≤ y)).Pairwise (· ≤ ·) := by
  have h := List.pairwise_mergeSort (le := fun x y : Int => decide (x ≤ y)) (fun a b c h1 h2 => by simp at h1 h2 ⊢; omega) (fun a b => by simp; omega) l
  exact h.imp fun h => by simpa using h
theorem sort_mem (l : List Int) (z : Int) : z ∈ (l.mergeSort fun x y => decide (x ≤ y)) ↔ z ∈ l := (List.mergeSort_perm l _).mem_iff

/-- The rows when the edges of vertices before v, and the first k of v's, are done. -/
structure PQ (g : GraphD) (s : List Bool) (v k : Nat) (Q : GraphD) : Prop where
  len : Q.length = g.length
  short : ∀ a, (rowG Q a).length ≤ 24 * v + k
  mem : ∀ (a : Nat) (z : Int), z ∈ rowG Q a ↔ ∃ u x i : Nat, (u < v ∨ (u = v ∧ i < k)) ∧ (rowG (woG g s) u)[i]? = some (x : Int) ∧ nameOf g s u = a ∧ nameOf g s x = z ∧ z ≠ a
theorem PQ.start (g : GraphD) (s : List Bool) : PQ g s 0 0 (List.replicate g.length []) := by
  have e : ∀ a, rowG (List.replicate g.length ([] : List Int)) a = [] := fun a => by
    unfold rowG
    rw [List.getD_eq_getElem?_getD, List.getElem?_replicate]
    split <;> rfl
  refine ⟨by simp, fun a => by rw [e]; simp, fun a z => ?_⟩
  rw [e]
  constructor
  · intro h; simp at h
  · rintro ⟨u, x, i, h, _⟩; omega
theorem PQ.skip {g : GraphD} {s : List Bool} {v k x : Nat} {Q : GraphD} (h : PQ g s v k Q) (hx : (rowG (woG g s) v)[k]? = some (x : Int)) (hn : nameOf g s x = nameOf g s v) : PQ g s v (k + 1) Q := by
  refine ⟨h.len, fun a => by have := h.short a; omega, fun a z => ?_⟩
  rw [h.mem]
  constructor
  · rintro ⟨u, y, i, h1, h2⟩
    exact ⟨u, y, i, by omega, h2⟩
  · rintro ⟨u, y, i, h1, h2, h3, h4, h5⟩
    by_cases e : u = v ∧ i = k
    · obtain ⟨rfl, rfl⟩ := e
      rw [hx] at h2
      injection h2 with h2
      obtain rfl : x = y := by omega
      rw [hn, h3] at h4
      exact absurd h4.symm h5
    · exact ⟨u, y, i, by omega, h2, h3, h4, h5⟩
theorem PQ.put {g : GraphD} {s : List Bool} {v k x a0 : Nat} {z0 : Int} {Q : GraphD} (h : PQ g s v k Q) (hx : (rowG (woG g s) v)[k]? = some (x : Int)) (hv : nameOf g s v = a0) (hz : nameOf g s x = z0) (hne : z0 ≠ a0) (ha : a0 < Q.length) : PQ g s v (k + 1) (Q.set a0 (Q[a0] ++ [z0])) := by
  have key : ∀ a, rowG (Q.set a0 (Q[a0] ++ [z0])) a = if a = a0 then rowG Q a ++ [z0] else rowG Q a := fun a => by
    unfold rowG
    rw [List.getD_eq_getElem?_getD, List.getD_eq_getElem?_getD, List.getElem?_set]
    by_cases e : a0 = a
    · subst e; simp [ha]
    · rw [if_neg e, if_neg (fun e2 => e e2.symm)]
  refine ⟨by rw [List.length_set]; exact h.len, fun a => ?_, fun a z => ?_⟩
  · rw [key]
    have := h.short a
    split
    · rw [List.length_append, List.length_singleton]; omega
    · omega
  · rw [key]
    by_cases e : a = a0
    · subst e
      rw [if_pos rfl, List.mem_append, h.mem, List.mem_singleton]
      constructor
      · rintro (⟨u, y, i, h1, h2⟩ | rfl)
        · exact ⟨u, y, i, by omega, h2⟩
        · exact ⟨v, x, k, by omega, hx, hv, hz, hne⟩
      · rintro ⟨u, y, i, h1, h2, h3, h4, h5⟩
        by_cases e : u = v ∧ i = k
        · obtain ⟨rfl, rfl⟩ := e
          rw [hx] at h2
          injection h2 with h2
          obtain rfl : x = y := by omega
          exact .inr (h4.symm.trans hz)
        · exact .inl ⟨u, y, i, by omega, h2, h3, h4, h5⟩
    · rw [if_neg e, h.mem]
      constructor
      · rintro ⟨u, y, i, h1, h2⟩
        exact ⟨u, y, i, by omega, h2⟩
      · rintro ⟨u, y, i, h1, h2, h3, h4, h5⟩
        by_cases e2 : u = v ∧ i = k
        · obtain ⟨rfl, rfl⟩ := e2
          exfalso
          rw [hv] at h3
          exact e (by omega)
        · exact ⟨u, y, i, by omega, h2, h3, h4, h5⟩
theorem PQ.next {g : GraphD} {s : List Bool} {v k : Nat} {Q : GraphD} (h : PQ g s v k Q) (hk : (rowG (woG g s) v).length ≤ k) (h24 : k ≤ 24) : PQ g s (v + 1) 0 Q := by
  refine ⟨h.len, fun a => by have := h.short a; omega, fun a z => ?_⟩
  rw [h.mem]
  constructor
  · rintro ⟨u, y, i, h1, h2⟩
    exact ⟨u, y, i, by omega, h2⟩
  · rintro ⟨u, y, i, h1, h2, h3⟩
    have := (List.getElem?_eq_some_iff.1 h2).1
    refine ⟨u, y, i, ?_, h2, h3⟩
    by_cases e : u = v
    · subst e; omega
    · omega
theorem PQ.row {g : GraphD} {s : List Bool} {Q : GraphD} (h : PQ g s g.length 0 Q) (hg : validG g = true) (a : Nat) : Lib.compact ((rowG Q a).mergeSort fun x y => decide (x ≤ y)) = quotRow g s a := by
  obtain ⟨h1, h2⟩ := compact_sorted (sort_sorted (rowG Q a))
  refine sorted_ext h1 (quotRow_sorted g s a) fun z => ?_
  rw [h2, sort_mem, h.mem, quotRow_mem]
  constructor
  · rintro ⟨u, x, i, h3, h4, h5, h6, h7⟩
    have he : EdgeG (woG g s) u x := List.mem_of_getElem? h4
    have hu : u < g.length := by omega
    obtain ⟨e1, e2, e3⟩ := (woG_edge hu).1 he
    have hx := (e1.range hg).2.1
    obtain ⟨b, hb, _⟩ := name_open hx e3
    exact ⟨u, x, e1, h5, h6, by omega, h7⟩
  · rintro ⟨u, x, he, hu, hx, hz, hne⟩
    obtain ⟨b, rfl⟩ := Int.eq_ofNat_of_zero_le hz
    have hub := (name_nat hu).2.1.1.left
    have hxb := (name_nat hx).2.1.1.left
    have heo : EdgeG (woG g s) u x := (woG_edge hub.1).2 ⟨he, hub.2, hxb.2⟩
    obtain ⟨i, hi, e⟩ := List.mem_iff_getElem.1 heo
    exact ⟨u, x, i, .inl hub.1, by rw [List.getElem?_eq_getElem hi, e], hu, hx, hne⟩
end Go.Proofs.Ytcljmgchghjncaa
namespace Go.Proofs.Ytcljmgchghjncaa
open Go Go.RowKit Fl

theorem heap_mapBlock (w : World) (b : Nat) (f : Array Value → Array Value) {c : Array Value} {t : TypeId} {fr : Nat × Nat} (h : w.heap[b]? = some (.cells c t fr)) : (Sort.mapBlock w b f).heap[b]? = some (.cells (f c) t fr) := by
  unfold Sort.mapBlock
  simp only [Array.getElem?_modify, if_true]
  rw [h]
  rfl
theorem heap_mapBlock_other (w : World) (b k : Nat) (f : Array Value → Array Value) (h : k ≠ b) : (Sort.mapBlock w b f).heap[k]? = w.heap[k]? := by
  unfold Sort.mapBlock
  simp only [Array.getElem?_modify]
  rw [if_neg (fun e => h e.symm)]
theorem own_putRow {W : World} {base b n cap : Nat} {l d : List Int} (h : W.ownsRow base 3 1 (.slice (some ⟨b, 0, none⟩) n cap) n (l.map Iv)) (hd : d.length = n) :
    (Sort.putRow (Value.int .i64) W b 0 d.toArray).ownsRow base 3 1 (.slice (some ⟨b, 0, none⟩) n cap) n (d.map Iv) := by
  obtain ⟨_, h2⟩ := h
  rcases h2 with ⟨hv, _⟩ | ⟨g', cap', cur, hv, hg, hh, hnc, hcm, hcs, hx⟩
  · cases hv
  · injection hv with hA _ hc
    injection hA with hA
    injection hA with hA
    subst hA hc
    refine ⟨by simp [hd], .inr ⟨b, cap, Sort.putCells (Value.int .i64) 0 d.toArray cur, rfl, hg, heap_mapBlock W b _ hh, hnc, hcm, by simpa [Sort.putCells] using hcs, ?_⟩⟩
    refine List.ext_getElem? fun i => ?_
    rw [List.getElem?_take, List.getElem?_map]
    have hn1 : n * 1 = n := Nat.mul_one n
    by_cases hi : i < n
    · rw [if_pos (by omega)]
      have hic : i < cur.size := by omega
      have hid : i < d.length := by omega
      rw [List.getElem?_eq_getElem (l := d) hid]
      simp only [Sort.putCells, Array.getElem?_toList, Array.getElem?_mapIdx, Array.getElem?_eq_getElem hic, Option.map_some, Nat.zero_le, true_and, Nat.zero_add, List.size_toArray, Nat.sub_zero]
      rw [if_pos hid, arr_get hid]
    · rw [if_neg (by omega), List.getElem?_eq_none (by omega)]
      rfl
theorem putRow_other (W : World) (b k : Nat) (d : Array Int) (h : k ≠ b) : (Sort.putRow (Value.int .i64) W b 0 d).heap[k]? = W.heap[k]? := heap_mapBlock_other W b k _ h
theorem own_cut {W : World} {base b n n' cap : Nat} {l : List Int} (h : W.ownsRow base 3 1 (.slice (some ⟨b, 0, none⟩) n cap) n (l.map Iv)) (hn : n' ≤ n) : W.ownsRow base 3 1 (.slice (some ⟨b, 0, none⟩) n' cap) n' ((l.take n').map Iv) := by
  obtain ⟨h1, h2⟩ := h
  rcases h2 with ⟨hv, _⟩ | ⟨g', cap', cur, hv, hg, hh, hnc, hcm, hcs, hx⟩
  · cases hv
  · injection hv with hA _ hc
    injection hA with hA
    injection hA with hA
    subst hA hc
    refine ⟨?_, .inr ⟨b, cap, cur, rfl, hg, hh, by omega, hcm, hcs, ?_⟩⟩
    · simp at h1 ⊢
      omega
    · rw [List.map_take, ← hx, List.take_take]
      congr 1
      omega
theorem own_grow {W : World} {base n : Nat} {e : TypeId} {u : Value} {xs : List Value} (h : W.ownsRow base e 1 u n xs) (os : Array Obj) : (Sort.grow W os).ownsRow base e 1 u n xs := by
  obtain ⟨h1, h2⟩ := h
  refine ⟨h1, ?_⟩
  rcases h2 with h2 | ⟨g, cap, cur, hv, hg, hh, hrest⟩
  · exact .inl h2
  · refine .inr ⟨g, cap, cur, hv, hg, ?_, hrest⟩
    show (W.heap ++ os)[g]? = _
    rw [Array.getElem?_append_left (block_lt hh)]
    exact hh
/-- One row is put in another's place: in its own block, or nowhere. -/
theorem RowsD.one {W W' : World} {base q n cap k c1 : Nat} {A1 : Option Addr} {g : GraphD} {r' : List Int} {u' : Value} (h : RowsD W base (.slice (some ⟨q, 0, none⟩) n cap) g) (hk : k < g.length) (hc : W.cell? ⟨q, k, none⟩ = some (.slice A1 g[k].length c1))
    (hown : W'.ownsRow base 3 1 u' r'.length (r'.map Iv)) (hblk : ∀ b, u'.ownBlock = some b → (Value.slice A1 g[k].length c1).ownBlock = some b) (hw : ∀ b, b < W.heap.size → (Value.slice A1 g[k].length c1).ownBlock ≠ some b → W'.heap[b]? = W.heap[b]?) :
    RowsD (W'.setCell ⟨q, k, none⟩ u') base (.slice (some ⟨q, 0, none⟩) n cap) (g.set k r') := by
  obtain ⟨vs, h1, h2, h3, h4⟩ := h
  have hn : n = g.length := by
    obtain ⟨A, c, hv2, _⟩ := own_is h2
    injection hv2 with _ hn _
  subst hn
  have hkv : k < vs.length := by omega
  have e1 := List.getElem?_eq_getElem (l := vs) (i := k) hkv
  have hu : vs[k] = .slice A1 g[k].length c1 := by
    have := (own_get h2 e1).1
    rw [hc] at this
    injection this with this
    exact this.symm
  rw [hu] at e1
  have hq := own_row_block h2
  obtain ⟨csq, hq⟩ := hq
  have hown1 := h3 k _ _ e1 (List.getElem?_eq_getElem hk)
  have hblk1 : ∀ b, (Value.slice A1 g[k].length c1).ownBlock = some b → ∃ cur, W.heap[b]? = some (.cells cur 3 (0, 0)) := fun b hb => by
    obtain ⟨_, hr⟩ := hown1
    rcases hr with ⟨hv, _⟩ | ⟨g', cap', cur, hv, _, hh, _⟩
    · rw [hv] at hb; simp [Value.ownBlock] at hb
    · rw [hv] at hb
      simp [Value.ownBlock] at hb
      subst hb
      exact ⟨cur, hh⟩
  have hqne : (Value.slice A1 g[k].length c1).ownBlock ≠ some q := fun hb => by
    obtain ⟨cur, h5⟩ := hblk1 q hb
    rw [hq] at h5
    injection h5 with h5
    injection h5 with _ h6
    exact absurd h6 (by decide)
  have hqn : W'.heap[q]? = some (.cells csq 24 (0, 0)) := (hw q (block_lt hq) hqne).trans hq
  have hkeep : ∀ (u : Value) (m : Nat) (xs : List Value) (e : TypeId), W.ownsRow base e 1 u m xs → (∀ b, u.ownBlock = some b → (Value.slice A1 g[k].length c1).ownBlock ≠ some b) → W'.ownsRow base e 1 u m xs := fun u m xs e ho hne => by
    obtain ⟨ho1, hr⟩ := ho
    refine ⟨ho1, ?_⟩
    rcases hr with hr | ⟨b, cap', cur, hv, hgb, hh, hrest⟩
    · exact .inl hr
    · exact .inr ⟨b, cap', cur, hv, hgb, (hw b (block_lt hh) (hne b (by rw [hv]; rfl))).trans hh, hrest⟩
  have hset : ∀ (u : Value) (m : Nat) (xs : List Value), W'.ownsRow base 3 1 u m xs → (W'.setCell ⟨q, k, none⟩ u').ownsRow base 3 1 u m xs := fun u m xs ho => by
    obtain ⟨ho1, hr⟩ := ho
    refine ⟨ho1, ?_⟩
    rcases hr with hr | ⟨b, cap', cur, hv, hgb, hh, hrest⟩
    · exact .inl hr
    · refine .inr ⟨b, cap', cur, hv, hgb, (Below.heap_setCell _ _ _ _ (fun e => ?_)).trans hh, hrest⟩
      simp only at e
      subst e
      rw [hh] at hqn
      injection hqn with hqn
      injection hqn with _ h6
      exact absurd h6 (by decide)
  have hrows : W'.ownsRow base 24 1 (.slice (some ⟨q, 0, none⟩) g.length cap) g.length vs := hkeep _ _ _ _ h2 (fun b hb => by
    simp [Value.ownBlock] at hb
    subst hb
    exact hqne)
  refine ⟨vs.set k u', by simpa using h1, by rw [List.length_set]; exact own_put hrows, fun i u r hi hr => ?_, fun i j u1 u2 b hi hj hij hb => ?_⟩
  · rw [List.getElem?_set] at hi hr
    by_cases e : k = i
    · subst e
      rw [if_pos rfl, if_pos hkv] at hi
      rw [if_pos rfl, if_pos hk] at hr
      injection hi with hi
      injection hr with hr
      subst hi hr
      exact hset _ _ _ hown
    · rw [if_neg e] at hi hr
      exact hset _ _ _ (hkeep _ _ _ _ (h3 i u r hi hr) (fun b hb hb2 => h4 i k u _ b hi e1 (fun e2 => e e2.symm) hb hb2))
  · rw [List.getElem?_set] at hi hj
    by_cases e : k = i
    · subst e
      rw [if_pos rfl, if_pos hkv] at hi
      rw [if_neg (fun e2 => hij e2)] at hj
      injection hi with hi
      subst hi
      exact h4 k j _ _ b e1 hj hij (hblk b hb)
    · rw [if_neg e] at hi
      by_cases e2 : k = j
      · subst e2
        rw [if_pos rfl, if_pos hkv] at hj
        injection hj with hj
        subst hj
        intro h6
        exact h4 i k u1 _ b hi e1 (fun e3 => e e3.symm) hb (hblk b h6)
      · rw [if_neg e2] at hj
        exact h4 i j u1 u2 b hi hj hij hb
end Go.Proofs.Ytcljmgchghjncaa
namespace Go.Proofs.Ytcljmgchghjncaa
open Go Go.RowKit Fl

def cntN (q : Nat → Bool) (n : Nat) : Nat := (List.range n).countP q
theorem cntN_succ (q : Nat → Bool) (n : Nat) : cntN q (n + 1) = cntN q n + if q n then 1 else 0 := by
  unfold cntN
  rw [List.range_succ, List.countP_append, List.countP_singleton]
theorem cntN_congr {q q' : Nat → Bool} : ∀ {n : Nat}, (∀ a, a < n → q' a = q a) → cntN q' n = cntN q n
  | 0, _ => rfl
  | n + 1, h => by
    rw [cntN_succ, cntN_succ, cntN_congr (fun a ha => h a (by omega)), h n (by omega)]
theorem cntN_add {q q' : Nat → Bool} {a0 : Nat} (h : ∀ a, a ≠ a0 → q' a = q a) (h0 : q a0 = false) : ∀ n, cntN q' n = cntN q n + if a0 < n ∧ q' a0 = true then 1 else 0
  | 0 => by simp [cntN]
  | n + 1 => by
    rw [cntN_succ, cntN_succ, cntN_add h h0 n]
    by_cases e : n = a0
    · subst e
      rw [h0]
      by_cases e2 : q' n = true
      · rw [e2]; simp
      · simp [e2]
    · rw [h n e]
      have h1 : (a0 < n + 1 ∧ q' a0 = true) ↔ (a0 < n ∧ q' a0 = true) := by
        constructor
        · rintro ⟨h1, h2⟩; exact ⟨by omega, h2⟩
        · rintro ⟨h1, h2⟩; exact ⟨by omega, h2⟩
      simp only [h1]
      omega
theorem cntN_zero {q : Nat → Bool} : ∀ {n : Nat}, cntN q n = 0 ↔ ∀ a, a < n → q a = false
  | 0 => by simp [cntN]
  | n + 1 => by
    rw [cntN_succ]
    constructor
    · intro h a ha
      have h1 : cntN q n = 0 := by omega
      rcases Nat.lt_succ_iff_lt_or_eq.1 ha with h2 | rfl
      · exact cntN_zero.1 h1 a h2
      · rcases e : q a with _ | _
        · rfl
        · rw [e] at h; simp at h
    · intro h
      rw [cntN_zero.2 (fun a ha => h a (by omega)), h n (by omega)]
      rfl
theorem cntN_le (q : Nat → Bool) : ∀ n, cntN q n ≤ n
  | 0 => by simp [cntN]
  | n + 1 => by
    rw [cntN_succ]
    have := cntN_le q n
    split <;> omega
open Classical in
/-- How many of the names in P lead to x by an edge. -/
noncomputable def bfn (g : GraphD) (s : List Bool) (P : Nat → Bool) (x : Nat) : Nat := cntN (fun a => P a && decide ((x : Int) ∈ quotRow g s a)) g.length
theorem bfn_add {g : GraphD} {s : List Bool} {P P' : Nat → Bool} {a0 x : Nat} (ha : a0 < g.length) (h : ∀ a, a ≠ a0 → P' a = P a) (h0 : P a0 = false) (h1 : P' a0 = true) : bfn g s P' x = bfn g s P x + if (x : Int) ∈ quotRow g s a0 then 1 else 0 := by
  classical
  unfold bfn
  rw [cntN_add (q := fun a => P a && decide ((x : Int) ∈ quotRow g s a)) (a0 := a0) (fun a hne => by rw [h a hne]) (by rw [h0]; rfl)]
  simp [ha, h1]
theorem bfn_zero {g : GraphD} {s : List Bool} {P : Nat → Bool} {x : Nat} : bfn g s P x = 0 ↔ ∀ a, a < g.length → P a = true → (x : Int) ∉ quotRow g s a := by
  classical
  unfold bfn
  rw [cntN_zero]
  constructor
  · intro h a ha hp hm
    have := h a ha
    rw [hp] at this
    simp [hm] at this
  · intro h a ha
    rcases e : P a with _ | _
    · rfl
    · simp [h a ha e]
theorem bfn_le (g : GraphD) (s : List Bool) (P : Nat → Bool) (x : Nat) : bfn g s P x ≤ g.length := cntN_le _ _
theorem bfn_none (g : GraphD) (s : List Bool) (x : Nat) : bfn g s (fun a => decide (a < 0)) x = 0 := bfn_zero.2 fun a _ h => by simp at h
theorem bfn_congr {g : GraphD} {s : List Bool} {P P' : Nat → Bool} {x : Nat} (h : ∀ a, a < g.length → P' a = P a) : bfn g s P' x = bfn g s P x := by
  classical
  unfold bfn
  exact cntN_congr fun a ha => by rw [h a ha]
/-- The counts, while the first k edges of a0 are added. -/
noncomputable def addF (g : GraphD) (s : List Bool) (P : Nat → Bool) (a0 k : Nat) (x : Nat) : Nat := bfn g s P x + if (x : Int) ∈ (quotRow g s a0).take k then 1 else 0
/-- The counts, while the first k edges of a0 are taken off. -/
noncomputable def subF (g : GraphD) (s : List Bool) (P : Nat → Bool) (a0 k : Nat) (x : Nat) : Nat := bfn g s P x + if (x : Int) ∈ (quotRow g s a0).drop k then 1 else 0
theorem row_nodup (g : GraphD) (s : List Bool) (a : Nat) : (quotRow g s a).Nodup := (quotRow_sorted g s a).imp fun h => by omega
theorem addF_step {g : GraphD} {s : List Bool} {P : Nat → Bool} {a0 k t : Nat} (hk : k < (quotRow g s a0).length) (ht : (quotRow g s a0)[k] = (t : Int)) : addF g s P a0 k t = bfn g s P t ∧ upF (addF g s P a0 k) t (addF g s P a0 k t + 1) = addF g s P a0 (k + 1) := by
  have hnt : (t : Int) ∉ (quotRow g s a0).take k := fun hm => by
    have hn := row_nodup g s a0
    rw [← List.take_append_drop k (quotRow g s a0)] at hn
    have := (List.nodup_append.1 hn).2.2 (t : Int) hm (t : Int) (by rw [List.drop_eq_getElem_cons hk, ht]; simp)
    exact this rfl
  have h1 : addF g s P a0 k t = bfn g s P t := by unfold addF; rw [if_neg hnt]; rfl
  refine ⟨h1, funext fun x => ?_⟩
  have hm : ((x : Int) ∈ (quotRow g s a0).take (k + 1)) ↔ ((x : Int) ∈ (quotRow g s a0).take k ∨ x = t) := by
    rw [List.take_succ_eq_append_getElem hk, List.mem_append, List.mem_singleton, ht]
    constructor
    · rintro (h | h)
      · exact .inl h
      · exact .inr (by omega)
    · rintro (h | h)
      · exact .inl h
      · exact .inr (by omega)
  unfold upF
  by_cases e : x = t
  · subst e
    rw [if_pos rfl, h1]
    unfold addF
    rw [if_pos (hm.2 (.inr rfl))]
  · rw [if_neg e]
    unfold addF
    have : ((x : Int) ∈ (quotRow g s a0).take (k + 1)) ↔ ((x : Int) ∈ (quotRow g s a0).take k) := by rw [hm]; simp [e]
    simp only [this]
theorem subF_step {g : GraphD} {s : List Bool} {P : Nat → Bool} {a0 k t : Nat} (hk : k < (quotRow g s a0).length) (ht : (quotRow g s a0)[k] = (t : Int)) : subF g s P a0 k t = bfn g s P t + 1 ∧ upF (subF g s P a0 k) t (bfn g s P t) = subF g s P a0 (k + 1) := by
  have hd : (quotRow g s a0).drop k = (t : Int) :: (quotRow g s a0).drop (k + 1) := by rw [List.drop_eq_getElem_cons hk, ht]
  have hnt : (t : Int) ∉ (quotRow g s a0).drop (k + 1) := fun hm => by
    have hn := row_nodup g s a0
    rw [← List.take_append_drop k (quotRow g s a0), hd] at hn
    have := (List.nodup_cons.1 (List.nodup_append.1 hn).2.1).1
    exact this hm
  refine ⟨by unfold subF; rw [if_pos (by rw [hd]; simp)], funext fun x => ?_⟩
  unfold upF
  by_cases e : x = t
  · subst e
    rw [if_pos rfl]
    unfold subF
    rw [if_neg hnt]
    rfl
  · rw [if_neg e]
    unfold subF
    have : ((x : Int) ∈ (quotRow g s a0).drop k) ↔ ((x : Int) ∈ (quotRow g s a0).drop (k + 1)) := by
      rw [hd, List.mem_cons]
      constructor
      · rintro (h | h)
        · omega
        · exact h
      · exact .inr
    simp only [this]
theorem addF_zero (g : GraphD) (s : List Bool) (P : Nat → Bool) (a0 : Nat) : addF g s P a0 0 = bfn g s P := by
  funext x
  unfold addF
  rw [if_neg (by simp)]
  rfl
theorem addF_all {g : GraphD} {s : List Bool} {P P' : Nat → Bool} {a0 k : Nat} (hk : (quotRow g s a0).length ≤ k) (ha : a0 < g.length) (h : ∀ a, a ≠ a0 → P' a = P a) (h0 : P a0 = false) (h1 : P' a0 = true) : addF g s P a0 k = bfn g s P' := by
  funext x
  unfold addF
  rw [List.take_of_length_le hk, bfn_add ha h h0 h1]
theorem subF_zero {g : GraphD} {s : List Bool} {P P' : Nat → Bool} {a0 : Nat} (ha : a0 < g.length) (h : ∀ a, a ≠ a0 → P' a = P a) (h0 : P a0 = false) (h1 : P' a0 = true) : subF g s P a0 0 = bfn g s P' := by
  funext x
  unfold subF
  rw [List.drop_zero, bfn_add ha h h0 h1]
theorem subF_all {g : GraphD} {s : List Bool} {P : Nat → Bool} {a0 k : Nat} (hk : (quotRow g s a0).length ≤ k) : subF g s P a0 k = bfn g s P := by
  funext x
  unfold subF
  rw [List.drop_of_length_le hk, if_neg (by simp)]
  rfl
/-- Who is not listed yet. -/
def notIn (out : List Int) (a : Nat) : Bool := decide ((a : Int) ∉ out)
/-- An edge by which a path comes into the component of its end. -/
theorem last_edge {g : GraphD} {s : List Bool} {w v : Nat} (hw : nameOf g s w = w) (hwv : w ≠ v) : ∀ {y : Nat}, PathG g s w y → nameOf g s y = v → ∃ u x a : Nat, PathG g s w u ∧ EdgeG g u x ∧ nameOf g s u = a ∧ nameOf g s x = v ∧ a ≠ v := by
  intro y h
  induction h with
  | refl _ _ => intro hy; rw [hw] at hy; omega
  | step p e h1 h2 ih =>
    rename_i u y
    intro hy
    obtain ⟨a, ha, _⟩ := name_open p.right.1 p.right.2
    by_cases hav : a = v
    · subst hav; exact ih ha
    · exact ⟨u, y, a, p, e, ha, hy, hav⟩
theorem cand_free {g : GraphD} {s : List Bool} {out : List Int} (ho : OrdOk g s out) (v : Nat) : cand g s out v = true ↔ nameOf g s v = v ∧ (v : Int) ∉ out ∧ bfn g s (notIn out) v = 0 := by
  rw [cand_iff, bfn_zero]
  constructor
  · rintro ⟨h1, h2, h3⟩
    refine ⟨h1, h2, fun a ha hp hm => ?_⟩
    obtain ⟨q1, q2, q3, q4⟩ := quot_path (quotRow_mem.1 hm)
    exact h3 a ha q1 (fun e => q3 e.symm) (by simpa [notIn] using hp) q4
  · rintro ⟨h1, h2, h3⟩
    refine ⟨h1, h2, fun w hw hwn hwv hwo hp => ?_⟩
    obtain ⟨u, x, a, p, he, hu, hx, hav⟩ := last_edge hwn hwv hp h1
    obtain ⟨a1, a2, a3, a4⟩ := name_name hu
    have hwa : PathG g s w a := p.trans a4.1
    have hao : (a : Int) ∉ out := fun hm => by
      obtain ⟨i, hi, e⟩ := List.mem_iff_getElem.1 hm
      by_cases hwa2 : w = a
      · subst hwa2; exact hwo hm
      · obtain ⟨j, _, e2⟩ := ho.before i a w (by rw [List.getElem?_eq_getElem hi, e]) hwn hwa2 hwa
        exact hwo (List.mem_of_getElem? e2)
    exact h3 a a2 (by simp [notIn, hao]) (quotRow_mem.2 ⟨u, x, he, hu, hx, by omega, by omega⟩)
theorem leastF_congr {p q : Nat → Bool} : ∀ {n : Nat}, (∀ i, i < n → p i = q i) → leastF p n = leastF q n
  | 0, _ => rfl
  | n + 1, h => by
    unfold leastF
    rw [leastF_congr (fun i hi => h i (by omega)), h n (by omega)]
open Classical in
/-- What leastFree looks for. -/
noncomputable def freeP (g : GraphD) (s : List Bool) (M : List Bool) (f : Nat → Nat) (v : Nat) : Bool := decide (nameOf g s v = v) && (!atB M v && decide (f v = 0))
theorem best_free {g : GraphD} {s : List Bool} {out : List Int} {M : List Bool} (ho : OrdOk g s out) (hM : ∀ x, atB M x = true ↔ (x : Int) ∈ out) : leastF (freeP g s M (bfn g s (notIn out))) g.length = best g s out := by
  unfold best
  refine leastF_congr fun i _ => ?_
  rw [Bool.eq_iff_iff, cand_free ho]
  unfold freeP
  simp only [Bool.and_eq_true, decide_eq_true_eq, Bool.not_eq_true']
  constructor
  · rintro ⟨h1, h2, h3⟩
    exact ⟨h1, (fun e => by rw [(hM i).2 e] at h2; cases h2), h3⟩
  · rintro ⟨h1, h2, h3⟩
    refine ⟨h1, ?_, h3⟩
    rcases e : atB M i with _ | _
    · rfl
    · exact absurd ((hM i).1 e) h2
end Go.Proofs.Ytcljmgchghjncaa
