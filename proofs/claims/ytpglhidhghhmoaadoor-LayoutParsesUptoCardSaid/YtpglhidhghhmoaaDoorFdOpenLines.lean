/- An argument of type []api.Line, opened for the walks. -/
import Derived.Test.YtpglhidhghhmoaaDoorFdOpen
import Derived.Test.YtpglhidhghhmoaaDoorFdValid
import Derived.Deep.SlicePairs
import Derived.Deep.Strs
namespace Go.Proofs.YtpglhidhghhmoaaDoor
open Go.ChangeShapes Go.WideShapes Go.ChangeAt Go.RowKit Go.Deep Fl

theorem weightsAll_mem {H : Type} {P : Program} {e : TypeId} {d : DataW H} {n : Nat} : ∀ {ds : List (DataW H)}, d ∈ ds → n ∈ d.weights P e → n ∈ DataW.weightsAll P e ds
  | [], h, _ => by simp at h
  | x :: r, h, hn => by
    rw [DataW.weightsAll, List.mem_append]
    rcases List.mem_cons.1 h with rfl | h
    · exact .inl hn
    · exact .inr (weightsAll_mem h hn)
theorem addr_plain {W : World} {a : Addr} {v : Value} (h : W.cell? (a.add 0) = some v) : a = ⟨a.block, a.off, none⟩ := by
  obtain ⟨b, o, s⟩ := a
  have hs : s = none := by simpa [Addr.add] using World.cell?_spot h
  rw [hs]
theorem addr_add (b o j : Nat) : (⟨b, o, none⟩ : Addr).add j = ⟨b, o + j, none⟩ := by
  unfold Addr.add; split <;> simp_all
set_option maxRecDepth 100000 in
/-- A list of strings, as bytes. -/
theorem open_fields {H : Type} {enc : TypeId × Value → H} {W : World} {fuel : Nat} {v : Value} {d : DataW H} {p : List MemPlace}
    (h : DataW.trod enc Tryd.prog W 0 (fun _ => true) true fuel 51 [v] = some (d, p)) (hw : ∀ n ∈ d.weights Tryd.prog 51, n ≤ reachBytes) :
    ∃ (A : Option Addr) (c : Nat) (fs : List (List UInt8)), v = .slice A fs.length c ∧ fs.length ≤ c ∧ Holds W A (fs.map S) ∧ fs.length ≤ 8796093021952 ∧ ∀ f ∈ fs, f.length ≤ maxLen := by
  rcases open_strs Tryd.underlying51 Tryd.underlying9 (by kernel_rfl) h with ⟨hcs, hx⟩ | ⟨a, len, cap, m, Sx, hcs, _, hl, hm, hmm, hx, hcell⟩
  · obtain rfl : v = .slice none 0 0 := by simpa using hcs
    exact ⟨none, 0, [], rfl, Nat.le_refl _, .inl rfl, by simp, by simp⟩
  · obtain rfl : v = .slice (some a) len cap := by simpa using hcs
    simp only [if_true] at hmm
    subst hmm
    have hlen : ((List.range len).map fun i => (Sx i).data.toList).length = len := by simp
    have hd : d = .slice ((List.range len).map fun i => .lit (.string (Sx i).data.toList)) ((List.range (m - len)).map fun j => .lit (.string (Sx (len + j)).data.toList)) := congrArg Prod.fst hx
    have hb : Tryd.prog.bytesOf 9 = 16 := by kernel_rfl
    have h1 := hw ((len + (m - len)) * 16) (by
      rw [hd]; simp [DataW.weights, Tryd.underlying51, hb])
    refine ⟨some a, m, (List.range len).map fun i => (Sx i).data.toList, by rw [hlen], by rw [hlen]; exact hl, ?_, ?_, ?_⟩
    · by_cases h0 : len = 0
      · subst h0; exact .inl rfl
      · have hp := addr_plain (hcell 0 (by omega)).1
        have hblk := World.block_lt_of_cell? _ _ (hcell 0 (by omega)).1
        rw [hp] at hblk
        refine .inr ⟨a.block, a.off, congrArg some hp, by simpa [Addr.add] using hblk, fun j hj => ?_⟩
        have hj' : j < len := by simpa using hj
        have e := (hcell j (by omega)).1
        rw [hp, addr_add] at e
        rw [e]; simp [S]
    · rw [hlen]; unfold reachBytes at h1; omega
    · intro f hf
      obtain ⟨i, hi, rfl⟩ := List.mem_map.1 hf
      have := (hcell i (by have := List.mem_range.1 hi; omega)).2
      simpa using this
set_option maxRecDepth 100000 in
/-- An argument of type []api.Line holds lines. -/
theorem open_lines {H : Type} {enc : TypeId × Value → H} {W : World} {v : Value} {d : DataW H} {p : List MemPlace} {base : Nat}
    (hok : Value.okWide Tryd.prog W .any base 22 v) (h : DataW.Trod enc Tryd.prog W 0 (fun _ => true) true 22 v d p) (hw : ∀ n ∈ d.weights Tryd.prog 22, n ≤ reachBytes) :
    ∃ (A : Option Addr) (c : Nat) (ls : List LineI), v = .slice A ls.length c ∧ RawAt W A ls ∧ ls.length ≤ 4398046510976 ∧ (∀ x ∈ ls, x.2.length ≤ 8796093021952) ∧ (∀ x ∈ ls, ∀ f ∈ x.2, f.length ≤ maxLen) ∧
      ∀ x ∈ ls, -9223372036854775808 ≤ x.1 ∧ x.1 ≤ 9223372036854775807 := by
  obtain ⟨a0, len0, cap0, rfl⟩ := okWide_slice Tryd.underlying22 hok
  obtain ⟨fuel, hf⟩ := h
  rcases open_slice_pairs Tryd.underlying22 Tryd.underlying58 (by kernel_rfl) rfl rfl (by kernel_rfl) (by kernel_rfl) hf with ⟨hcs, hx⟩ | ⟨a, len, cap, m, n, V0, V1, D0, D1, P0, P1, hcs, _, hl, hm, hmm, hx, hcell⟩
  · simp [Value.cells] at hcs
    obtain ⟨rfl, rfl, rfl⟩ := hcs
    exact ⟨none, 0, [], rfl, .inl rfl, by simp, by simp, by simp, by simp⟩
  · simp [Value.cells] at hcs
    obtain ⟨rfl, rfl, rfl⟩ := hcs
    simp only [if_true] at hmm
    subst hmm
    have hd : d = .slice ((List.range len0).map fun i => .agg [D0 i, D1 i]) ((List.range (m - len0)).map fun j => .agg [D0 (len0 + j), D1 (len0 + j)]) := congrArg Prod.fst hx
    have hb : Tryd.prog.bytesOf 58 = 32 := by kernel_rfl
    have h1 := hw ((len0 + (m - len0)) * 32) (by
      rw [hd]; simp [DataW.weights, Tryd.underlying22, hb])
    have h2 : ∀ i, i < len0 → ∀ n ∈ (D1 i).weights Tryd.prog 51, n ≤ reachBytes := fun i hi n hn => hw n (by
      rw [hd]; simp only [DataW.weights, Tryd.underlying22]
      refine List.mem_cons_of_mem _ (List.mem_append_left _ (weightsAll_mem (List.mem_map.2 ⟨i, List.mem_range.2 hi, rfl⟩) ?_))
      simp [DataW.weights, Tryd.underlying58, DataW.weightsEach, hn])
    have each : ∀ i, i < len0 → ∃ q : Int × List (List UInt8), ∃ A' c', V0 i = .int .i64 q.1 ∧ (-9223372036854775808 ≤ q.1 ∧ q.1 ≤ 9223372036854775807) ∧ V1 i = .slice A' q.2.length c' ∧ q.2.length ≤ c' ∧ Holds W A' (q.2.map S) ∧ q.2.length ≤ 8796093021952 ∧ ∀ f ∈ q.2, f.length ≤ maxLen := fun i hi => by
      obtain ⟨_, _, g0, g1⟩ := hcell i (by omega)
      obtain ⟨z, hz, _, hwz⟩ := DataW.trod_int Tryd.underlying3 g0
      obtain ⟨A', c', fs, e1, e2, e3, e4, e5⟩ := open_fields g1 (h2 i hi)
      exact ⟨(z, fs), A', c', by simpa using hz, bounds_i64 hwz, e1, e2, e3, e4, e5⟩
    obtain ⟨q, hq⟩ := choose_lt each
    have hlen : ((List.range len0).map q).length = len0 := by simp
    have hmem : ∀ x ∈ (List.range len0).map q, ∃ i, i < len0 ∧ q i = x := fun x hx => by
      obtain ⟨i, hi, e⟩ := List.mem_map.1 hx
      exact ⟨i, List.mem_range.1 hi, e⟩
    refine ⟨some a, m, (List.range len0).map q, by rw [hlen], ?_, ?_, ?_, ?_, ?_⟩
    · by_cases h0 : len0 = 0
      · subst h0; exact .inl rfl
      · have hp := addr_plain (hcell 0 (by omega)).1
        have hblk := World.block_lt_of_cell? _ _ (hcell 0 (by omega)).1
        rw [hp] at hblk
        refine .inr ⟨a.block, a.off, congrArg some hp, by simpa [Addr.add] using hblk, fun k hk => ?_⟩
        have hk' : k < len0 := by simpa using hk
        obtain ⟨e1, e2, _, _⟩ := hcell k (by omega)
        obtain ⟨A', c', r0, _, r1, r2, r3, _⟩ := hq k hk'
        rw [hp, addr_add] at e1 e2
        have eq : ((List.range len0).map q)[k] = q k := by simp
        rw [eq]
        exact ⟨A', c', by rw [e1, r0], by rw [Nat.add_assoc, e2, r1], r2, r3⟩
    · rw [hlen]; unfold reachBytes at h1; omega
    · intro x hx
      obtain ⟨i, hi, rfl⟩ := hmem x hx
      obtain ⟨_, _, _, _, _, _, _, r, _⟩ := hq i hi
      exact r
    · intro x hx
      obtain ⟨i, hi, rfl⟩ := hmem x hx
      obtain ⟨_, _, _, _, _, _, _, _, r⟩ := hq i hi
      exact r
    · intro x hx
      obtain ⟨i, hi, rfl⟩ := hmem x hx
      obtain ⟨_, _, _, r, _⟩ := hq i hi
      exact r
end Go.Proofs.YtpglhidhghhmoaaDoor
