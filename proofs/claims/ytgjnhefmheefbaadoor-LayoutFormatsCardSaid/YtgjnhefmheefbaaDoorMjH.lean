/- Joined texts. -/
import Derived.OpenShut
import Derived.Test.YtgjnhefmheefbaaDoorMjC
import Derived.Carry
import Derived.SizedLaws
import Derived.Deep.SlicePairs
import Derived.Deep.Strs
import Derived.Test.YtgjnhefmheefbaaDoorMjE
import Derived.Test.YtgjnhefmheefbaaDoorCards
import Derived.Test.YtgjnhefmheefbaaDoorTie
import Derived.WalkKit
import Derived.ProofKit
import Derived.MakeChecks
import Derived.Deep.DeepHandedRow
import Derived.Test.YtgjnhefmheefbaaDoorLitTab
import Derived.Test.YtgjnhefmheefbaaDoorMjA
import Derived.Test.YtgjnhefmheefbaaDoorMjB
namespace Go.Proofs.YtgjnhefmheefbaaDoor
open Go.ChangeShapes Go.WideShapes Go.ChangeAt Go.RowKit

theorem laidOut : laidOutB Tryd.prog = true := by kernel_rfl
theorem cellsInt : Tryd.prog.cellsOf 3 = 1 := by kernel_rfl
set_option maxRecDepth 100000 in
/-- An argument of type []int holds a list of numbers. -/
theorem open_list {H : Type} {enc : TypeId × Value → H} {W : World} {v : Value} {d : DataW H} {p : List MemPlace} {base : Nat}
    (hok : Value.okWide Tryd.prog W .any base 23 v) (h : DataW.Trod enc Tryd.prog W 0 (fun _ => true) true 23 v d p) :
    ∃ (A : Option Addr) (c : Nat) (zs : List Int), v = .slice A zs.length c ∧ IntsAt W W.heap.size A zs ∧ zs.length ≤ maxLen := by
  obtain ⟨a0, len, cap, rfl⟩ := okWide_slice Tryd.underlying23 hok
  obtain ⟨fuel, hf⟩ := h
  rcases open_ints Tryd.underlying23 Tryd.underlying3 cellsInt hf with ⟨hcs, hx⟩ | ⟨a, len', cap', zs, hcs, _, hl, hm, hz, hx, hcell, hwz⟩
  · simp [Value.cells] at hcs
    obtain ⟨rfl, rfl, rfl⟩ := hcs
    exact ⟨none, 0, [], rfl, fun h => by simp at h, by simp⟩
  · simp [Value.cells] at hcs
    obtain ⟨rfl, rfl, rfl⟩ := hcs
    simp only [if_true] at hz
    have hlen : (zs.take len).length = len := by simp; omega
    refine ⟨some a, cap, zs.take len, by rw [hlen], fun hn => ?_, by rw [hlen]; omega⟩
    rw [hlen] at hn
    obtain ⟨b, off, rfl, hc⟩ := ints_at hcell (by omega)
    refine ⟨b, off, rfl, World.block_lt_of_cell? _ _ (hc 0 (by omega)), fun j hj => ?_⟩
    rw [hlen] at hj
    have hjz : j < zs.length := by omega
    have hwj := bounds_i64 (hwz _ (List.getElem_mem hjz))
    have e : (zs.take len)[j]'(by rw [hlen]; exact hj) = zs[j] := by simp
    rw [e]
    refine ⟨?_, hwj.1, hwj.2⟩
    rw [hc j hjz]
    simp [List.getD, hjz]
end Go.Proofs.YtgjnhefmheefbaaDoor
namespace Go.Proofs.YtgjnhefmheefbaaDoor
open Go.ChangeShapes Go.WideShapes Go.ChangeAt Go.RowKit Go.Deep Fl

theorem weightsAll_mem {H : Type} {P : Program} {e : TypeId} {d : DataW H} {n : Nat} : ∀ {ds : List (DataW H)}, d ∈ ds → n ∈ d.weights P e → n ∈ DataW.weightsAll P e ds
  | [], h, _ => by simp at h
  | x :: r, h, hn => by
    rw [DataW.weightsAll, List.mem_append]
    rcases List.mem_cons.1 h with rfl | h
    · exact .inl hn
    · exact .inr (weightsAll_mem h hn)
theorem addr_plain {W : World} {a : Addr} {v : Value} (h : W.cell? (a.add 0) = some v) : a = ⟨a.block, a.off, none⟩ := by
  obtain ⟨b, o, s⟩ := a
  have hs : s = none := by simpa [Addr.add] using World.cell?_spot h
  rw [hs]
theorem addr_add (b o j : Nat) : (⟨b, o, none⟩ : Addr).add j = ⟨b, o + j, none⟩ := by
  unfold Addr.add; split <;> simp_all
set_option maxRecDepth 100000 in
/-- A list of strings, as bytes. -/
theorem open_fields {H : Type} {enc : TypeId × Value → H} {W : World} {fuel : Nat} {v : Value} {d : DataW H} {p : List MemPlace}
    (h : DataW.trod enc Tryd.prog W 0 (fun _ => true) true fuel 45 [v] = some (d, p)) (hw : ∀ n ∈ d.weights Tryd.prog 45, n ≤ reachBytes) :
    ∃ (A : Option Addr) (c : Nat) (fs : List (List UInt8)), v = .slice A fs.length c ∧ fs.length ≤ c ∧ Holds W A (fs.map S) ∧ fs.length ≤ 8796093021952 ∧ ∀ f ∈ fs, f.length ≤ maxLen := by
  rcases open_strs Tryd.underlying45 Tryd.underlying9 (by kernel_rfl) h with ⟨hcs, hx⟩ | ⟨a, len, cap, m, Sx, hcs, _, hl, hm, hmm, hx, hcell⟩
  · obtain rfl : v = .slice none 0 0 := by simpa using hcs
    exact ⟨none, 0, [], rfl, Nat.le_refl _, .inl rfl, by simp, by simp⟩
  · obtain rfl : v = .slice (some a) len cap := by simpa using hcs
    simp only [if_true] at hmm
    subst hmm
    have hlen : ((List.range len).map fun i => (Sx i).data.toList).length = len := by simp
    have hd : d = .slice ((List.range len).map fun i => .lit (.string (Sx i).data.toList)) ((List.range (m - len)).map fun j => .lit (.string (Sx (len + j)).data.toList)) := congrArg Prod.fst hx
    have hb : Tryd.prog.bytesOf 9 = 16 := by kernel_rfl
    have h1 := hw ((len + (m - len)) * 16) (by
      rw [hd]; simp [DataW.weights, Tryd.underlying45, hb])
    refine ⟨some a, m, (List.range len).map fun i => (Sx i).data.toList, by rw [hlen], by rw [hlen]; exact hl, ?_, ?_, ?_⟩
    · by_cases h0 : len = 0
      · subst h0; exact .inl rfl
      · have hp := addr_plain (hcell 0 (by omega)).1
        have hblk := World.block_lt_of_cell? _ _ (hcell 0 (by omega)).1
        rw [hp] at hblk
        refine .inr ⟨a.block, a.off, congrArg some hp, by simpa [Addr.add] using hblk, fun j hj => ?_⟩
        have hj' : j < len := by simpa using hj
        have e := (hcell j (by omega)).1
        rw [hp, addr_add] at e
        rw [e]; simp [S]
    · rw [hlen]; unfold reachBytes at h1; omega
    · intro f hf
      obtain ⟨i, hi, rfl⟩ := List.mem_map.1 hf
      have := (hcell i (by have := List.mem_range.1 hi; omega)).2
      simpa using this
set_option maxRecDepth 100000 in
/-- An argument of type []api.Line holds lines. -/
theorem open_lines {H : Type} {enc : TypeId × Value → H} {W : World} {v : Value} {d : DataW H} {p : List MemPlace} {base : Nat}
    (hok : Value.okWide Tryd.prog W .any base 40 v) (h : DataW.Trod enc Tryd.prog W 0 (fun _ => true) true 40 v d p) (hw : ∀ n ∈ d.weights Tryd.prog 40, n ≤ reachBytes) :
    ∃ (A : Option Addr) (c : Nat) (ls : List LineI), v = .slice A ls.length c ∧ RawAt W A ls ∧ ls.length ≤ 4398046510976 ∧ (∀ x ∈ ls, x.2.length ≤ 8796093021952) ∧ (∀ x ∈ ls, ∀ f ∈ x.2, f.length ≤ maxLen) ∧
      ∀ x ∈ ls, -9223372036854775808 ≤ x.1 ∧ x.1 ≤ 9223372036854775807 := by
  obtain ⟨a0, len0, cap0, rfl⟩ := okWide_slice Tryd.underlying40 hok
  obtain ⟨fuel, hf⟩ := h
  rcases open_slice_pairs Tryd.underlying40 Tryd.underlying52 (by kernel_rfl) rfl rfl (by kernel_rfl) (by kernel_rfl) hf with ⟨hcs, hx⟩ | ⟨a, len, cap, m, n, V0, V1, D0, D1, P0, P1, hcs, _, hl, hm, hmm, hx, hcell⟩
  · simp [Value.cells] at hcs
    obtain ⟨rfl, rfl, rfl⟩ := hcs
    exact ⟨none, 0, [], rfl, .inl rfl, by simp, by simp, by simp, by simp⟩
  · simp [Value.cells] at hcs
    obtain ⟨rfl, rfl, rfl⟩ := hcs
    simp only [if_true] at hmm
    subst hmm
    have hd : d = .slice ((List.range len0).map fun i => .agg [D0 i, D1 i]) ((List.range (m - len0)).map fun j => .agg [D0 (len0 + j), D1 (len0 + j)]) := congrArg Prod.fst hx
    have hb : Tryd.prog.bytesOf 52 = 32 := by kernel_rfl
    have h1 := hw ((len0 + (m - len0)) * 32) (by
      rw [hd]; simp [DataW.weights, Tryd.underlying40, hb])
    have h2 : ∀ i, i < len0 → ∀ n ∈ (D1 i).weights Tryd.prog 45, n ≤ reachBytes := fun i hi n hn => hw n (by
      rw [hd]; simp only [DataW.weights, Tryd.underlying40]
      refine List.mem_cons_of_mem _ (List.mem_append_left _ (weightsAll_mem (List.mem_map.2 ⟨i, List.mem_range.2 hi, rfl⟩) ?_))
      simp [DataW.weights, Tryd.underlying52, DataW.weightsEach, hn])
    have each : ∀ i, i < len0 → ∃ q : Int × List (List UInt8), ∃ A' c', V0 i = .int .i64 q.1 ∧ (-9223372036854775808 ≤ q.1 ∧ q.1 ≤ 9223372036854775807) ∧ V1 i = .slice A' q.2.length c' ∧ q.2.length ≤ c' ∧ Holds W A' (q.2.map S) ∧ q.2.length ≤ 8796093021952 ∧ ∀ f ∈ q.2, f.length ≤ maxLen := fun i hi => by
      obtain ⟨_, _, g0, g1⟩ := hcell i (by omega)
      obtain ⟨z, hz, _, hwz⟩ := DataW.trod_int Tryd.underlying3 g0
      obtain ⟨A', c', fs, e1, e2, e3, e4, e5⟩ := open_fields g1 (h2 i hi)
      exact ⟨(z, fs), A', c', by simpa using hz, bounds_i64 hwz, e1, e2, e3, e4, e5⟩
    obtain ⟨q, hq⟩ := choose_lt each
    have hlen : ((List.range len0).map q).length = len0 := by simp
    have hmem : ∀ x ∈ (List.range len0).map q, ∃ i, i < len0 ∧ q i = x := fun x hx => by
      obtain ⟨i, hi, e⟩ := List.mem_map.1 hx
      exact ⟨i, List.mem_range.1 hi, e⟩
    refine ⟨some a, m, (List.range len0).map q, by rw [hlen], ?_, ?_, ?_, ?_, ?_⟩
    · by_cases h0 : len0 = 0
      · subst h0; exact .inl rfl
      · have hp := addr_plain (hcell 0 (by omega)).1
        have hblk := World.block_lt_of_cell? _ _ (hcell 0 (by omega)).1
        rw [hp] at hblk
        refine .inr ⟨a.block, a.off, congrArg some hp, by simpa [Addr.add] using hblk, fun k hk => ?_⟩
        have hk' : k < len0 := by simpa using hk
        obtain ⟨e1, e2, _, _⟩ := hcell k (by omega)
        obtain ⟨A', c', r0, _, r1, r2, r3, _⟩ := hq k hk'
        rw [hp, addr_add] at e1 e2
        have eq : ((List.range len0).map q)[k] = q k := by simp
        rw [eq]
        exact ⟨A', c', by rw [e1, r0], by rw [Nat.add_assoc, e2, r1], r2, r3⟩
    · rw [hlen]; unfold reachBytes at h1; omega
    · intro x hx
      obtain ⟨i, hi, rfl⟩ := hmem x hx
      obtain ⟨_, _, _, _, _, _, _, r, _⟩ := hq i hi
      exact r
    · intro x hx
      obtain ⟨i, hi, rfl⟩ := hmem x hx
      obtain ⟨_, _, _, _, _, _, _, _, r⟩ := hq i hi
      exact r
    · intro x hx
      obtain ⟨i, hi, rfl⟩ := hmem x hx
      obtain ⟨_, _, _, r, _⟩ := hq i hi
      exact r
end Go.Proofs.YtgjnhefmheefbaaDoor
namespace Go.Proofs.YtgjnhefmheefbaaDoor
open Go.ChangeShapes Go.WideShapes Go.ChangeAt Go.RowKit Go.Deep Fl

theorem lf_cellsInt : Tryd.prog.cellsOf 3 = 1 := by kernel_rfl
theorem lf_cellsDecl : Tryd.prog.cellsOf 47 = 4 := by kernel_rfl
set_option maxRecDepth 100000 in
/-- A list of numbers inside of an argument. -/
theorem open_nums {H : Type} {enc : TypeId × Value → H} {W : World} {fuel : Nat} {v : Value} {d : DataW H} {p : List MemPlace}
    (h : DataW.trod enc Tryd.prog W 0 (fun _ => true) true fuel 23 [v] = some (d, p)) (hw : ∀ n ∈ d.weights Tryd.prog 23, n ≤ reachBytes) :
    ∃ (A : Option Addr) (c : Nat) (zs : List Int), v = .slice A zs.length c ∧ Holds W A (zs.map I) ∧ zs.length ≤ 17592186044416 ∧ ∀ z ∈ zs, -9223372036854775808 ≤ z ∧ z ≤ 9223372036854775807 := by
  rcases open_ints Tryd.underlying23 Tryd.underlying3 lf_cellsInt h with ⟨hcs, hx⟩ | ⟨a, len, cap, zs, hcs, _, hl, hm, hz, hx, hcell, hwz⟩
  · obtain rfl : v = .slice none 0 0 := by simpa using hcs
    exact ⟨none, 0, [], rfl, .inl rfl, by simp, by simp⟩
  · obtain rfl : v = .slice (some a) len cap := by simpa using hcs
    simp only [if_true] at hz
    have hd := congrArg Prod.fst hx
    have hb : Tryd.prog.bytesOf 3 = 8 := by kernel_rfl
    have h1 := hw (((zs.take len).length + (zs.drop len).length) * 8) (by
      simp only at hd
      rw [hd]; simp [lits, DataW.weights, Tryd.underlying23, hb])
    unfold reachBytes at h1
    have hlen : (zs.take len).length = len := by simp; omega
    refine ⟨some a, cap, zs.take len, by rw [hlen], ?_, by omega, fun z hz => bounds_i64 (hwz z (List.mem_of_mem_take hz))⟩
    rcases Nat.eq_zero_or_pos len with h0 | h0
    · subst h0; exact .inl (by simp)
    · have hp := addr_plain (hcell 0 (by omega))
      have hblk := World.block_lt_of_cell? _ _ (hcell 0 (by omega))
      rw [hp] at hblk
      refine .inr ⟨a.block, a.off, congrArg some hp, by simpa [Addr.add] using hblk, fun j hj => ?_⟩
      have hj' : j < len := by rwa [List.length_map, hlen] at hj
      have e := hcell j (by omega)
      rw [hp, addr_add] at e
      rw [e, List.getD_eq_getElem?_getD, List.getElem?_eq_getElem (show j < zs.length by omega)]
      simp
set_option maxRecDepth 100000 in
/-- An argument of type []api.Decl holds declarations. -/
theorem open_decls {H : Type} {enc : TypeId × Value → H} {W : World} {v : Value} {d : DataW H} {p : List MemPlace} {base : Nat}
    (hok : Value.okWide Tryd.prog W .any base 22 v) (h : DataW.Trod enc Tryd.prog W 0 (fun _ => true) true 22 v d p) (hw : ∀ n ∈ d.weights Tryd.prog 22, n ≤ reachBytes) :
    ∃ (A : Option Addr) (c : Nat) (l : List DeclD), v = .slice A l.length c ∧ DeclsAt W A l ∧ l.length ≤ 2199023255552 ∧ ∀ x ∈ l, DeclSz x := by
  obtain ⟨a0, len0, cap0, rfl⟩ := okWide_slice Tryd.underlying22 hok
  obtain ⟨fuel, hf⟩ := h
  rcases open_slice Tryd.underlying22 hf with ⟨hcs, hx⟩ | ⟨a, len, cap, m, n, D, Pl, hcs, _, hl, hm, hmm, hx, hcell⟩
  · simp [Value.cells] at hcs
    obtain ⟨rfl, rfl, rfl⟩ := hcs
    exact ⟨none, 0, [], rfl, .inl rfl, by simp, by simp⟩
  · simp [Value.cells] at hcs
    obtain ⟨rfl, rfl, rfl⟩ := hcs
    simp only [if_true] at hmm
    subst hmm
    have hd : d = .slice ((List.range len0).map D) ((List.range (m - len0)).map fun j => D (len0 + j)) := congrArg Prod.fst hx
    have hb : Tryd.prog.bytesOf 47 = 64 := by kernel_rfl
    have h1 := hw ((len0 + (m - len0)) * 64) (by
      rw [hd]; simp [DataW.weights, Tryd.underlying22, hb])
    have h2 : ∀ i, i < len0 → ∀ n ∈ (D i).weights Tryd.prog 47, n ≤ reachBytes := fun i hi n hn => hw n (by
      rw [hd]; simp only [DataW.weights, Tryd.underlying22]
      exact List.mem_cons_of_mem _ (List.mem_append_left _ (weightsAll_mem (List.mem_map.2 ⟨i, List.mem_range.2 hi, rfl⟩) hn)))
    rw [lf_cellsDecl] at hcell
    have each : ∀ i, i < len0 → ∃ q : DeclD, ∃ A1 c1 A2 c2, W.cell? (a.add (i * 4)) = some (.int .i64 q.word) ∧ W.cell? (a.add (i * 4 + 1)) = some (.int .i64 q.line) ∧ W.cell? (a.add (i * 4 + 2)) = some (.slice A1 q.names.length c1) ∧ W.cell? (a.add (i * 4 + 3)) = some (.slice A2 q.nums.length c2) ∧ Holds W A1 (q.names.map S) ∧ Holds W A2 (q.nums.map I) ∧ DeclSz q := fun i hi => by
      obtain ⟨cs', g1, g2⟩ := hcell i (by omega)
      obtain ⟨xs, n, hn, hxx, hlen, hxl, hff⟩ := DataW.trod_struct Tryd.underlying47 g2
      rw [lf_cellsDecl] at hlen
      have hwi := h2 i hi
      obtain ⟨_, _, hc⟩ := World.cells?_some g1
      match xs, hxl, cs', hlen, hff, hxx, hc with
      | [y0, y1, y2, y3], _, [v0, v1, v2, v3], _, hff, hxx, hc =>
        have f0 := hff 0 _ rfl
        have f1 := hff 1 _ rfl
        have f2 := hff 2 _ rfl
        have f3 := hff 3 _ rfl
        simp [lf_cellsInt, show Tryd.prog.cellsOf 45 = 1 by kernel_rfl, show Tryd.prog.cellsOf 23 = 1 by kernel_rfl] at f0 f1 f2 f3
        obtain ⟨z0, e0, q0, _⟩ := DataW.trod_int Tryd.underlying3 f0
        obtain ⟨z1, e1, q1, _⟩ := DataW.trod_int Tryd.underlying3 f1
        have hDi : D i = .agg [y0.1, y1.1, y2.1, y3.1] := congrArg Prod.fst hxx
        have hw2 : ∀ n ∈ y2.1.weights Tryd.prog 45, n ≤ reachBytes := fun n hn => hwi n (by
          rw [hDi]; simp [DataW.weights, Tryd.underlying47, DataW.weightsEach, hn])
        have hw3 : ∀ n ∈ y3.1.weights Tryd.prog 23, n ≤ reachBytes := fun n hn => hwi n (by
          rw [hDi]; simp [DataW.weights, Tryd.underlying47, DataW.weightsEach, hn])
        obtain ⟨A1, k1, fs, e2, _, g3, g4, g5⟩ := open_fields (d := y2.1) (p := y2.2) f2 hw2
        obtain ⟨A2, k2, xs, e3, r3, r4, r5⟩ := open_nums (d := y3.1) (p := y3.2) f3 hw3
        simp only [List.cons.injEq, and_true] at e0 e1
        subst e0 e1 e2 e3
        have hc0 := hc 0 (by omega)
        have hc1 := hc 1 (by omega)
        have hc2 := hc 2 (by omega)
        have hc3 := hc 3 (by omega)
        rw [add_add] at hc0 hc1 hc2 hc3
        exact ⟨⟨z0, z1, fs, xs⟩, A1, k1, A2, k2, hc0, hc1, hc2, hc3, g3, r3, ⟨g4, r4, r5, g5⟩⟩
    haveI : Inhabited DeclD := ⟨⟨0, 0, [], []⟩⟩
    obtain ⟨q, hq⟩ := choose_lt each
    have hlen : ((List.range len0).map q).length = len0 := by simp
    refine ⟨some a, m, (List.range len0).map q, by rw [hlen], ?_, by rw [hlen]; unfold reachBytes at h1; omega, ?_⟩
    · by_cases h0 : len0 = 0
      · subst h0; exact .inl rfl
      · obtain ⟨_, _, _, _, hc0, _⟩ := hq 0 (by omega)
        rw [Nat.zero_mul] at hc0
        have hp := addr_plain hc0
        have hblk := World.block_lt_of_cell? _ _ hc0
        rw [hp] at hblk
        refine .inr ⟨a.block, a.off, congrArg some hp, by simpa [Addr.add] using hblk, fun k hk => ?_⟩
        have hk' : k < len0 := by simpa using hk
        have eq : ((List.range len0).map q)[k] = q k := by simp
        rw [eq]
        obtain ⟨A1, c1, A2, c2, h0', h1', h2', h3', h4', h5', _⟩ := hq k hk'
        rw [hp, addr_add] at h0' h1' h2' h3'
        exact ⟨A1, c1, A2, c2, h0', by rw [Nat.add_assoc]; exact h1', by rw [Nat.add_assoc]; exact h2', by rw [Nat.add_assoc]; exact h3', h4', h5'⟩
    · intro x hx
      obtain ⟨i, hi, rfl⟩ := List.mem_map.1 hx
      obtain ⟨_, _, _, _, _, _, _, _, _, _, h⟩ := hq i (List.mem_range.1 hi)
      exact h
end Go.Proofs.YtgjnhefmheefbaaDoor
namespace Go.Proofs.YtgjnhefmheefbaaDoor
open Go.ChangeShapes Go.WideShapes Go.ChangeAt Go.RowKit Fl

theorem own_none : ownKnob Tryd.prog.godebug = none := by kernel_rfl
noncomputable def setCells (cs : Array Value) : Obj → Obj
  | .cells _ t frozen => .cells cs t frozen
  | o => o
noncomputable def laidWorld2 (os : Os) : World :=
  { World.holding Tryd.prog os ⟨#[], #[], []⟩ with heap := ((((World.holding Tryd.prog os ⟨#[], #[], []⟩).heap.modify 0 (setCells shapeCells)).modify 1 (setCells (flatD (Rows.laid_internal_strconv_uint64pow10 : DataW Unit)).toArray)).modify 2 (setCells (flatD (Rows.laid_math_bits_deBruijn32tab : DataW Unit)).toArray)).modify 3 (setCells (flatD (Rows.laid_math_bits_deBruijn64tab : DataW Unit)).toArray) }
set_option maxRecDepth 100000 in
theorem laid_at2 (os : Os) (args : Array Value) : laidMet Tryd.prog Rows.layoutFormatsRow.laid ((laidWorld2 os).forCall (fun _ _ => 0) ⟨#[], args, []⟩).memory :=
  laidMet_of_run' 8 (by kernel_rfl) (by kernel_rfl)
/-- The condition on the table. -/
theorem shapes_of_laid {W : World} {l : List (String × DataW Unit)} (h : laidMet Tryd.prog l W) (hm : ("blockway/layout.shapes", Rows.laid_blockway_layout_shapes) ∈ l) : Shapes W := by
  obtain ⟨ty, fr, hh⟩ := laid_row h hm (m := 5) (g := 0) (by kernel_rfl) rfl (by kernel_rfl)
  exact ⟨ty, fr, hh⟩
/-- The condition on the powers of ten. -/
theorem pows_of_laid {W : World} {l : List (String × DataW Unit)} (h : laidMet Tryd.prog l W) (hm : ("internal/strconv.uint64pow10", Rows.laid_internal_strconv_uint64pow10) ∈ l) : Pows W := by
  have hg : Tryd.prog.globalNamed "internal/strconv.uint64pow10" = some 1 := by kernel_rfl
  obtain ⟨ty, fr, hh⟩ := laid_row h hm (m := 5) hg rfl (by kernel_rfl)
  unfold Pows Lib.TabIs World.var?
  rw [hg, Option.bind_some, hh]
  exact congrArg some (by kernel_rfl)
end Go.Proofs.YtgjnhefmheefbaaDoor
