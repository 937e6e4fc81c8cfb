/- Arguments of types [][]int and []bool opened for the walks. -/
import Derived.Test.YtcfnilemikenhaaRhOpen
import Derived.Deep.Matrix
import Derived.Deep.Grids
namespace Go.Proofs.Ytcfnilemikenhaa
open Go.ChangeShapes Go.WideShapes Go.ChangeAt Go.RowKit Go.Deep Fl

theorem weightsAll_mem {H : Type} {P : Program} {e : TypeId} {d : DataW H} {n : Nat} : ∀ {ds : List (DataW H)}, d ∈ ds → n ∈ d.weights P e → n ∈ DataW.weightsAll P e ds
  | [], h, _ => by simp at h
  | x :: r, h, hn => by
    rw [DataW.weightsAll, List.mem_append]
    rcases List.mem_cons.1 h with rfl | h
    · exact .inl hn
    · exact .inr (weightsAll_mem h hn)
theorem addr_plain {W : World} {a : Addr} {v : Value} (h : W.cell? (a.add 0) = some v) : a = ⟨a.block, a.off, none⟩ := by
  obtain ⟨b, o, s⟩ := a
  have hs : s = none := by simpa [Addr.add] using World.cell?_spot h
  rw [hs]
theorem addr_add (b o j : Nat) : (⟨b, o, none⟩ : Addr).add j = ⟨b, o + j, none⟩ := by
  unfold Addr.add; split <;> simp_all
/-- A row of cells, given one by one. -/
theorem holds_cells {W : World} {a : Addr} {xs : List Value} (h : ∀ j (hj : j < xs.length), W.cell? (a.add j) = some xs[j]) : Holds W (some a) xs := by
  rcases Nat.eq_zero_or_pos xs.length with h0 | h0
  · exact .inl (List.eq_nil_of_length_eq_zero h0)
  · have hp := addr_plain (h 0 h0)
    have hblk := World.block_lt_of_cell? _ _ (h 0 h0)
    rw [hp] at hblk
    refine .inr ⟨a.block, a.off, congrArg some hp, by simpa [Addr.add] using hblk, fun j hj => ?_⟩
    have e := h j hj
    rw [hp, addr_add] at e
    exact e
set_option maxRecDepth 100000 in
/-- An argument of type []bool holds a list of bools. -/
theorem open_boolsG {H : Type} {enc : TypeId × Value → H} {W : World} {v : Value} {d : DataW H} {p : List MemPlace} {base : Nat}
    (hok : Value.okWide Try.prog W .any base 23 v) (h : DataW.Trod enc Try.prog W 0 (fun _ => true) true 23 v d p) (hw : ∀ n ∈ d.weights Try.prog 23, n ≤ reachBytes) :
    ∃ (A : Option Addr) (c : Nat) (s : List Bool), v = .slice A s.length c ∧ Holds W A (s.map Bo) ∧ s.length ≤ 1000000000000000000 := by
  obtain ⟨a0, len, cap, rfl⟩ := okWide_slice Try.underlying23 hok
  obtain ⟨fuel, hf⟩ := h
  rcases open_bools Try.underlying23 (by kernel_rfl) (by kernel_rfl) hf with ⟨hcs, hx⟩ | ⟨a, len', cap', B, hcs, _, hl, hm, hx, hcell⟩
  · simp [Value.cells] at hcs
    obtain ⟨rfl, rfl, rfl⟩ := hcs
    exact ⟨none, 0, [], rfl, .inl rfl, by simp⟩
  · simp [Value.cells] at hcs
    obtain ⟨rfl, rfl, rfl⟩ := hcs
    have hd := congrArg Prod.fst hx
    have hb : Try.prog.bytesOf 4 = 1 := by kernel_rfl
    have h1 := hw ((len + (cap - len)) * 1) (by
      simp only at hd
      rw [hd]; simp [boolRow, DataW.weights, Try.underlying23, hb])
    unfold reachBytes at h1
    have hlen : ((List.range len).map B).length = len := by simp
    refine ⟨some a, cap, (List.range len).map B, by rw [hlen], holds_cells fun j hj => ?_, by rw [hlen]; omega⟩
    have hj' : j < len := by simpa using hj
    rw [hcell j (by omega)]
    simp
set_option maxRecDepth 100000 in
/-- An argument of type [][]int holds lists of numbers. -/
theorem open_rowsG {H : Type} {enc : TypeId × Value → H} {W : World} {v : Value} {d : DataW H} {p : List MemPlace} {base : Nat}
    (hok : Value.okWide Try.prog W .any base 22 v) (h : DataW.Trod enc Try.prog W 0 (fun _ => true) true 22 v d p) (hw : ∀ n ∈ d.weights Try.prog 22, n ≤ reachBytes) :
    ∃ (A : Option Addr) (c : Nat) (g : GraphD), v = .slice A g.length c ∧ RowsAt W A g ∧ Sized g := by
  obtain ⟨a0, len, cap, rfl⟩ := okWide_slice Try.underlying22 hok
  obtain ⟨fuel, hf⟩ := h
  rcases open_int_rows Try.underlying22 Try.underlying25 Try.underlying3 (by kernel_rfl) cellsInt hf with ⟨hcs, hx⟩ | ⟨a, len', cap', A, L, C, Z, hcs, _, hl, hm, hx, hrow⟩
  · simp [Value.cells] at hcs
    obtain ⟨rfl, rfl, rfl⟩ := hcs
    exact ⟨none, 0, [], rfl, .inl rfl, by simp, by simp⟩
  · simp [Value.cells] at hcs
    obtain ⟨rfl, rfl, rfl⟩ := hcs
    have hd := congrArg Prod.fst hx
    simp only at hd
    have hb : Try.prog.bytesOf 25 = 24 := by kernel_rfl
    have hb2 : Try.prog.bytesOf 3 = 8 := by kernel_rfl
    have h1 := hw ((len + (cap - len)) * 24) (by
      rw [hd]; simp [DataW.weights, Try.underlying22, hb])
    unfold reachBytes at h1
    have hlen : ((List.range len).map fun r => (Z r).take (L r)).length = len := by simp
    have hL : ∀ r, r < len → ((Z r).take (L r)).length = L r := fun r hr => by
      obtain ⟨_, e2, _, e4, _⟩ := hrow r (by omega)
      simp; omega
    have hS : ∀ r, r < len → L r ≤ 1000000000000000000 := fun r hr => by
      obtain ⟨_, e2, _, e4, _, e6, _⟩ := hrow r (by omega)
      rcases hA : A r with _ | a'
      · have := e6 hA; omega
      · have h2 := hw ((((Z r).take (L r)).length + ((Z r).drop (L r)).length) * 8) (by
          rw [hd]; simp only [DataW.weights, Try.underlying22]
          refine List.mem_cons_of_mem _ (List.mem_append_left _ (weightsAll_mem (List.mem_map.2 ⟨r, List.mem_range.2 hr, rfl⟩) ?_))
          rw [hA]
          simp [intRow, lits, DataW.weights, Try.underlying25, hb2])
        unfold reachBytes at h2
        have := hL r hr
        omega
    refine ⟨some a, cap, (List.range len).map fun r => (Z r).take (L r), by rw [hlen], ?_, by rw [hlen]; omega, ?_⟩
    · by_cases h0 : len = 0
      · subst h0; exact .inl rfl
      · have hc0 := (hrow 0 (by omega)).1
        have hp := addr_plain hc0
        have hblk := World.block_lt_of_cell? _ _ hc0
        rw [hp] at hblk
        refine .inr ⟨a.block, a.off, congrArg some hp, by simpa [Addr.add] using hblk, fun j hj => ?_⟩
        have hj' : j < len := by simpa using hj
        obtain ⟨e1, e2, _, e4, _, e6, e7⟩ := hrow j (by omega)
        rw [hp, addr_add] at e1
        have hg : ((List.range len).map fun r => (Z r).take (L r))[j] = (Z j).take (L j) := by simp
        refine ⟨A j, C j, by rw [hg, hL j hj', e1], ?_⟩
        rw [hg]
        rcases hA : A j with _ | a'
        · have h3 := e6 hA
          have h4 : (Z j).take (L j) = [] := List.eq_nil_of_length_eq_zero (by rw [hL j hj']; omega)
          rw [h4]; exact .inl rfl
        · refine holds_cells fun i hi => ?_
          have hi' : i < L j := by have := hL j hj'; rw [List.length_map] at hi; omega
          rw [(e7 a' hA).2 i (by omega)]
          simp [List.getD, show i < (Z j).length by omega]
    · intro r hr
      obtain ⟨i, hi, rfl⟩ := List.mem_map.1 hr
      rw [hL i (List.mem_range.1 hi)]
      exact hS i (List.mem_range.1 hi)
end Go.Proofs.Ytcfnilemikenhaa
