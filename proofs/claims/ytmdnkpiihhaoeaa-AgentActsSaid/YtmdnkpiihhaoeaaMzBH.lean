/- Joined texts. -/
import Derived.Test.YtmdnkpiihhaoeaaMzBB
import Derived.Test.YtmdnkpiihhaoeaaMzAV
import Derived.Test.YtmdnkpiihhaoeaaMzAW
import Derived.Test.YtmdnkpiihhaoeaaMzAB
import Derived.Deep.Matrix
import Derived.Deep.Grids
import Derived.Test.YtmdnkpiihhaoeaaMzAD
import Derived.Deep.Slices
namespace Go.Proofs.Ytmdnkpiihhaoeaa
open Go.ChangeShapes Go.WideShapes Go.ChangeAt Go.RowKit Fl

theorem bounds_u64 {n : Int} (h : (Lit.int .u64 n).wf = true) : U64 n := by
  simp [Lit.wf, IntKind.min, IntKind.max, IntKind.signed, IntKind.bits] at h
  exact ⟨by omega, by omega⟩
theorem bounds_u8 {n : Int} (h : (Lit.int .u8 n).wf = true) : 0 ≤ n ∧ n < 256 := by
  simp [Lit.wf, IntKind.min, IntKind.max, IntKind.signed, IntKind.bits] at h
  omega
theorem cellsU8 : Try.prog.cellsOf 5 = 1 := by kernel_rfl
theorem cellsU64 : Try.prog.cellsOf 30 = 1 := by kernel_rfl
theorem cellsFrm : Try.prog.cellsOf 36 = 5 := by kernel_rfl
set_option maxRecDepth 100000 in
/-- An argument of type []uint8. -/
theorem open_bytes {H : Type} {enc : TypeId × Value → H} {W : World} {v : Value} {d : DataW H} {p : List MemPlace} {base : Nat}
    (hok : Value.okWide Try.prog W .any base 108 v) (h : DataW.Trod enc Try.prog W 0 (fun _ => true) true 108 v d p) :
    ∃ (A : Option Addr) (c : Nat) (l : List Int), v = .slice A l.length c ∧ Holds W A (l.map Bv8) ∧ BytesL l := by
  obtain ⟨a0, len, cap, rfl⟩ := okWide_slice Try.underlying108 hok
  obtain ⟨fuel, hf⟩ := h
  rcases open_ints Try.underlying108 Try.underlying5 cellsU8 hf with ⟨hcs, hx⟩ | ⟨a, len', cap', zs, hcs, _, hl, hm, hz, hx, hcell, hwz⟩
  · simp [Value.cells] at hcs
    obtain ⟨rfl, rfl, rfl⟩ := hcs
    exact ⟨none, 0, [], rfl, .inl rfl, fun x hx => by cases hx⟩
  · simp [Value.cells] at hcs
    obtain ⟨rfl, rfl, rfl⟩ := hcs
    simp only [if_true] at hz
    have hlen : (zs.take len).length = len := by simp; omega
    refine ⟨some a, cap, zs.take len, by rw [hlen], ?_, fun x hx => bounds_u8 (hwz x (List.mem_of_mem_take hx))⟩
    rcases Nat.eq_zero_or_pos len with h0 | h0
    · left; subst h0; simp
    · obtain ⟨b, off, rfl, hc⟩ := ints_at hcell (by omega)
      refine .inr ⟨b, off, rfl, World.block_lt_of_cell? _ _ (hc 0 (by omega)), fun j hj => ?_⟩
      rw [List.length_map, hlen] at hj
      rw [hc j (by omega)]
      have hjz : j < zs.length := by omega
      simp [List.getD, hjz]
set_option maxRecDepth 100000 in
/-- An argument of type api.Frame. -/
theorem open_frame {H : Type} {enc : TypeId × Value → H} {W : World} {v : Value} {d : DataW H} {p : List MemPlace} {base : Nat}
    (hok : Value.okWide Try.prog W .any base 36 v) (h : DataW.Trod enc Try.prog W 0 (fun _ => true) true 36 v d p) :
    ∃ f : FrD, v = FV f ∧ p = [] ∧ U64 f.seq ∧ (-9223372036854775808 ≤ f.kind ∧ f.kind ≤ 9223372036854775807) ∧ (-9223372036854775808 ≤ f.robot ∧ f.robot ≤ 9223372036854775807) ∧ (-9223372036854775808 ≤ f.cell ∧ f.cell ≤ 9223372036854775807) ∧ (-9223372036854775808 ≤ f.flag ∧ f.flag ≤ 9223372036854775807) := by
  obtain ⟨cs, rfl, hcs⟩ := okWide_struct Try.underlying36 hok
  obtain ⟨fuel, hf⟩ := h
  obtain ⟨xs, n, rfl, hx, hlen, hxl, hf⟩ := DataW.trod_struct Try.underlying36 hf
  simp only [Value.cells] at hlen hf
  rw [cellsFrm] at hlen
  obtain ⟨l⟩ := cs
  match xs, hxl, l, hlen with
  | [y0, y1, y2, y3, y4], _, [v0, v1, v2, v3, v4], _ =>
    have g0 := hf 0 _ rfl
    have g1 := hf 1 _ rfl
    have g2 := hf 2 _ rfl
    have g3 := hf 3 _ rfl
    have g4 := hf 4 _ rfl
    simp [cellsInt, cellsU64] at g0 g1 g2 g3 g4
    obtain ⟨a, e0, f0, w0⟩ := DataW.trod_int Try.underlying3 g0
    obtain ⟨b, e1, f1, w1⟩ := DataW.trod_int Try.underlying3 g1
    obtain ⟨s, e2, f2, w2⟩ := DataW.trod_int Try.underlying30 g2
    obtain ⟨c, e3, f3, w3⟩ := DataW.trod_int Try.underlying3 g3
    obtain ⟨g, e4, f4, w4⟩ := DataW.trod_int Try.underlying3 g4
    simp only [List.cons.injEq, and_true] at e0 e1 e2 e3 e4
    subst e0 e1 e2 e3 e4 f0 f1 f2 f3 f4
    exact ⟨⟨a, b, s, c, g⟩, rfl, by simpa using congrArg Prod.snd hx, bounds_u64 w2, bounds_i64 w0, bounds_i64 w1, bounds_i64 w3, bounds_i64 w4⟩
end Go.Proofs.Ytmdnkpiihhaoeaa
namespace Go.Proofs.Ytmdnkpiihhaoeaa
open Go.ChangeShapes Go.WideShapes Go.ChangeAt Go.RowKit Fl

theorem cellsBoolA : Try.prog.cellsOf 4 = 1 := by kernel_rfl
theorem cellsAgt : Try.prog.cellsOf 32 = 5 := by kernel_rfl
theorem cellsBdy : Try.prog.cellsOf 34 = 4 := by kernel_rfl
set_option maxRecDepth 100000 in
/-- An argument of type api.Agent. -/
theorem open_agent {H : Type} {enc : TypeId × Value → H} {W : World} {v : Value} {d : DataW H} {p : List MemPlace} {base : Nat}
    (hok : Value.okWide Try.prog W .any base 32 v) (h : DataW.Trod enc Try.prog W 0 (fun _ => true) true 32 v d p) :
    ∃ f : AgtD, v = AV f ∧ p = [] := by
  obtain ⟨cs, rfl, hcs⟩ := okWide_struct Try.underlying32 hok
  obtain ⟨fuel, hf⟩ := h
  obtain ⟨xs, n, rfl, hx, hlen, hxl, hf⟩ := DataW.trod_struct Try.underlying32 hf
  simp only [Value.cells] at hlen hf
  rw [cellsAgt] at hlen
  obtain ⟨l⟩ := cs
  match xs, hxl, l, hlen with
  | [y0, y1, y2, y3, y4], _, [v0, v1, v2, v3, v4], _ =>
    have g0 := hf 0 _ rfl
    have g1 := hf 1 _ rfl
    have g2 := hf 2 _ rfl
    have g3 := hf 3 _ rfl
    have g4 := hf 4 _ rfl
    simp [cellsInt, cellsU64, cellsBoolA] at g0 g1 g2 g3 g4
    obtain ⟨a, e0, f0, w0⟩ := DataW.trod_int Try.underlying30 g0
    obtain ⟨b, e1, f1, w1⟩ := DataW.trod_int Try.underlying3 g1
    obtain ⟨s, e2, f2⟩ := DataW.trod_bool Try.underlying4 g2
    obtain ⟨c, e3, f3, w3⟩ := DataW.trod_int Try.underlying3 g3
    obtain ⟨g, e4, f4, w4⟩ := DataW.trod_int Try.underlying3 g4
    simp only [List.cons.injEq, and_true] at e0 e1 e2 e3 e4
    subst e0 e1 e2 e3 e4 f0 f1 f2 f3 f4
    exact ⟨⟨a, b, s, c, g⟩, rfl, by simpa using congrArg Prod.snd hx⟩
set_option maxRecDepth 100000 in
/-- An argument of type api.Body. -/
theorem open_body {H : Type} {enc : TypeId × Value → H} {W : World} {v : Value} {d : DataW H} {p : List MemPlace} {base : Nat}
    (hok : Value.okWide Try.prog W .any base 34 v) (h : DataW.Trod enc Try.prog W 0 (fun _ => true) true 34 v d p) :
    ∃ f : BodD, v = BV f ∧ p = [] := by
  obtain ⟨cs, rfl, hcs⟩ := okWide_struct Try.underlying34 hok
  obtain ⟨fuel, hf⟩ := h
  obtain ⟨xs, n, rfl, hx, hlen, hxl, hf⟩ := DataW.trod_struct Try.underlying34 hf
  simp only [Value.cells] at hlen hf
  rw [cellsBdy] at hlen
  obtain ⟨l⟩ := cs
  match xs, hxl, l, hlen with
  | [y0, y1, y2, y3], _, [v0, v1, v2, v3], _ =>
    have g0 := hf 0 _ rfl
    have g1 := hf 1 _ rfl
    have g2 := hf 2 _ rfl
    have g3 := hf 3 _ rfl
    simp [cellsInt, cellsBoolA] at g0 g1 g2 g3
    obtain ⟨a, e0, f0, w0⟩ := DataW.trod_int Try.underlying3 g0
    obtain ⟨b, e1, f1, w1⟩ := DataW.trod_int Try.underlying3 g1
    obtain ⟨s, e2, f2⟩ := DataW.trod_bool Try.underlying4 g2
    obtain ⟨c, e3, f3⟩ := DataW.trod_bool Try.underlying4 g3
    simp only [List.cons.injEq, and_true] at e0 e1 e2 e3
    subst e0 e1 e2 e3 f0 f1 f2 f3
    exact ⟨⟨a, b, s, c⟩, rfl, by simpa using congrArg Prod.snd hx⟩
end Go.Proofs.Ytmdnkpiihhaoeaa
namespace Go.Proofs.Ytmdnkpiihhaoeaa
open Go.ChangeShapes Go.WideShapes Go.ChangeAt Go.RowKit Go.Deep Fl

theorem weightsAll_mem {H : Type} {P : Program} {e : TypeId} {d : DataW H} {n : Nat} : ∀ {ds : List (DataW H)}, d ∈ ds → n ∈ d.weights P e → n ∈ DataW.weightsAll P e ds
  | [], h, _ => by simp at h
  | x :: r, h, hn => by
    rw [DataW.weightsAll, List.mem_append]
    rcases List.mem_cons.1 h with rfl | h
    · exact .inl hn
    · exact .inr (weightsAll_mem h hn)
theorem addr_plain {W : World} {a : Addr} {v : Value} (h : W.cell? (a.add 0) = some v) : a = ⟨a.block, a.off, none⟩ := by
  obtain ⟨b, o, s⟩ := a
  have hs : s = none := by simpa [Addr.add] using World.cell?_spot h
  rw [hs]
theorem addr_add (b o j : Nat) : (⟨b, o, none⟩ : Addr).add j = ⟨b, o + j, none⟩ := by
  unfold Addr.add; split <;> simp_all
/-- A row of cells, given one by one. -/
theorem holds_cells {W : World} {a : Addr} {xs : List Value} (h : ∀ j (hj : j < xs.length), W.cell? (a.add j) = some xs[j]) : Holds W (some a) xs := by
  rcases Nat.eq_zero_or_pos xs.length with h0 | h0
  · exact .inl (List.eq_nil_of_length_eq_zero h0)
  · have hp := addr_plain (h 0 h0)
    have hblk := World.block_lt_of_cell? _ _ (h 0 h0)
    rw [hp] at hblk
    refine .inr ⟨a.block, a.off, congrArg some hp, by simpa [Addr.add] using hblk, fun j hj => ?_⟩
    have e := h j hj
    rw [hp, addr_add] at e
    exact e
set_option maxRecDepth 100000 in
/-- An argument of type []bool holds a list of bools. -/
theorem open_boolsG {H : Type} {enc : TypeId × Value → H} {W : World} {v : Value} {d : DataW H} {p : List MemPlace} {base : Nat}
    (hok : Value.okWide Try.prog W .any base 113 v) (h : DataW.Trod enc Try.prog W 0 (fun _ => true) true 113 v d p) (hw : ∀ n ∈ d.weights Try.prog 113, n ≤ reachBytes) :
    ∃ (A : Option Addr) (c : Nat) (s : List Bool), v = .slice A s.length c ∧ Holds W A (s.map Bo) ∧ s.length ≤ 1000000000000000000 := by
  obtain ⟨a0, len, cap, rfl⟩ := okWide_slice Try.underlying113 hok
  obtain ⟨fuel, hf⟩ := h
  rcases open_bools Try.underlying113 (by kernel_rfl) (by kernel_rfl) hf with ⟨hcs, hx⟩ | ⟨a, len', cap', B, hcs, _, hl, hm, hx, hcell⟩
  · simp [Value.cells] at hcs
    obtain ⟨rfl, rfl, rfl⟩ := hcs
    exact ⟨none, 0, [], rfl, .inl rfl, by simp⟩
  · simp [Value.cells] at hcs
    obtain ⟨rfl, rfl, rfl⟩ := hcs
    have hd := congrArg Prod.fst hx
    have hb : Try.prog.bytesOf 4 = 1 := by kernel_rfl
    have h1 := hw ((len + (cap - len)) * 1) (by
      simp only at hd
      rw [hd]; simp [boolRow, DataW.weights, Try.underlying113, hb])
    unfold reachBytes at h1
    have hlen : ((List.range len).map B).length = len := by simp
    refine ⟨some a, cap, (List.range len).map B, by rw [hlen], holds_cells fun j hj => ?_, by rw [hlen]; omega⟩
    have hj' : j < len := by simpa using hj
    rw [hcell j (by omega)]
    simp
end Go.Proofs.Ytmdnkpiihhaoeaa
namespace Go.Proofs.Ytmdnkpiihhaoeaa
open Go.ChangeShapes Go.WideShapes Go.ChangeAt Go.RowKit Go.Deep Fl

theorem cells_key {α : Type} (f : α → List Value) {k : Nat} (hk : 0 < k) (hf : ∀ q, (f q).length = k) : ∀ (l : List α) (j : Nat) (u : Value), (l.flatMap f)[j]? = some u → ∃ q, l[j / k]? = some q ∧ (f q)[j % k]? = some u
  | [], j, u, h => by simp at h
  | q :: l, j, u, h => by
    rw [List.flatMap_cons] at h
    by_cases hj : j < k
    · rw [List.getElem?_append_left (by rw [hf]; exact hj)] at h
      exact ⟨q, by rw [Nat.div_eq_of_lt hj]; rfl, by rw [Nat.mod_eq_of_lt hj]; exact h⟩
    · rw [List.getElem?_append_right (by rw [hf]; omega), hf] at h
      obtain ⟨q', h1, h2⟩ := cells_key f hk hf l (j - k) u h
      refine ⟨q', ?_, ?_⟩
      · rw [show j / k = (j - k) / k + 1 by rw [Nat.div_eq_sub_div hk (by omega)]]
        simpa using h1
      · rw [Nat.mod_eq_sub_mod (by omega)]
        exact h2
theorem cells_len {α : Type} (f : α → List Value) {k : Nat} (hf : ∀ q, (f q).length = k) : ∀ (l : List α), (l.flatMap f).length = l.length * k
  | [] => by simp
  | q :: l => by rw [List.flatMap_cons, List.length_append, hf, cells_len f hf l, List.length_cons, Nat.add_mul]; omega
set_option maxRecDepth 100000 in
/-- A slice of structs of k cells each. -/
theorem open_structsB {H : Type} {enc : TypeId × Value → H} {W : World} {α : Type} [Inhabited α] (f : α → List Value) {k : Nat} (hk : 0 < k) (hf : ∀ q, (f q).length = k) (R : α → DataW H → Prop) {t e : TypeId} (ht : Try.prog.underlying t = some (.slice e)) (hce : Try.prog.cellsOf e = k) (hbe : 0 < Try.prog.bytesOf e)
    (each : ∀ (fuel : Nat) (cs : List Value) (x : DataW H × List MemPlace), DataW.trod enc Try.prog W 0 (fun _ => true) true fuel e cs = some x → ∃ q, cs = f q ∧ R q x.1)
    {fuel : Nat} {v : Value} {d : DataW H} {p : List MemPlace} (h : DataW.trod enc Try.prog W 0 (fun _ => true) true fuel t [v] = some (d, p)) (hw : ∀ n ∈ d.weights Try.prog t, n ≤ reachBytes) :
    ∃ (A : Option Addr) (c : Nat) (l : List α), v = .slice A l.length c ∧ Holds W A (l.flatMap f) ∧ l.length ≤ 140737488355328 ∧ l.length ≤ c ∧ (∀ q ∈ l, ∃ x, R q x ∧ ∀ n ∈ x.weights Try.prog e, n ≤ reachBytes) ∧ l.length * Try.prog.bytesOf e ≤ reachBytes := by
  rcases open_slice ht h with ⟨hcs, hx⟩ | ⟨a, len, cap, m, n, D, Pl, hcs, _, hl, hm, hmm, hx, hcell⟩
  · obtain rfl : v = .slice none 0 0 := by simpa using hcs
    exact ⟨none, 0, [], rfl, .inl rfl, by simp, by simp, by simp, by simp⟩
  · obtain rfl : v = .slice (some a) len cap := by simpa using hcs
    simp only [if_true] at hmm
    subst hmm
    have hd : d = .slice ((List.range len).map D) ((List.range (m - len)).map fun j => D (len + j)) := congrArg Prod.fst hx
    have h1 := hw ((len + (m - len)) * Try.prog.bytesOf e) (by
      rw [hd]; simp [DataW.weights, ht])
    have h2 : ∀ i, i < len → ∀ n ∈ (D i).weights Try.prog e, n ≤ reachBytes := fun i hi n hn => hw n (by
      rw [hd]; simp only [DataW.weights, ht]
      exact List.mem_cons_of_mem _ (List.mem_append_left _ (weightsAll_mem (List.mem_map.2 ⟨i, List.mem_range.2 hi, rfl⟩) hn)))
    rw [hce] at hcell
    have each2 : ∀ i, i < len → ∃ q : α, (∀ j u, (f q)[j]? = some u → W.cell? (a.add (i * k + j)) = some u) ∧ R q (D i) := fun i hi => by
      obtain ⟨cs', g1, g2⟩ := hcell i (by omega)
      obtain ⟨q, rfl, hR⟩ := each _ _ _ g2
      obtain ⟨_, _, hc⟩ := World.cells?_some g1
      refine ⟨q, fun j u hj => ?_, hR⟩
      have hj3 := (List.getElem?_eq_some_iff.1 hj).1
      rw [hf] at hj3
      have e := hc j (by simpa using hj3)
      rw [add_add] at e
      rw [e, ← hj]
    obtain ⟨q, hq⟩ := choose_lt each2
    have hlen : ((List.range len).map q).length = len := by simp
    have hlb : len ≤ 140737488355328 := by
      unfold reachBytes at h1
      have := Nat.mul_le_mul_left (len + (m - len)) (show 1 ≤ Try.prog.bytesOf e from hbe)
      omega
    refine ⟨some a, m, (List.range len).map q, by rw [hlen], ?_, by rw [hlen]; exact hlb, by rw [hlen]; omega, ?_, by rw [hlen]; exact Nat.le_trans (Nat.mul_le_mul_right _ (by omega)) h1⟩
    · by_cases h0 : len = 0
      · subst h0; exact .inl rfl
      · have hne : 0 < (f (q 0)).length := by rw [hf]; exact hk
        have hc0 := (hq 0 (by omega)).1 0 _ (List.getElem?_eq_getElem hne)
        rw [Nat.zero_mul] at hc0
        have hp := addr_plain hc0
        have hblk := World.block_lt_of_cell? _ _ hc0
        rw [hp] at hblk
        refine .inr ⟨a.block, a.off, congrArg some hp, by simpa [Addr.add] using hblk, fun j hj => ?_⟩
        obtain ⟨b, g1, g2⟩ := cells_key f hk hf _ j _ (List.getElem?_eq_getElem hj)
        have hi : j / k < len := by have := (List.getElem?_eq_some_iff.1 g1).1; simpa using this
        have e := (hq (j / k) hi).1 (j % k) _ (by
          have : b = q (j / k) := by simpa [hi] using g1.symm
          rw [← this]; exact g2)
        rw [Nat.div_add_mod' j k, hp, addr_add] at e
        exact e
    · intro x hx
      obtain ⟨i, hi, rfl⟩ := List.mem_map.1 hx
      exact ⟨D i, (hq i (List.mem_range.1 hi)).2, h2 i (List.mem_range.1 hi)⟩
theorem open_structs {H : Type} {enc : TypeId × Value → H} {W : World} {α : Type} [Inhabited α] (f : α → List Value) {k : Nat} (hk : 0 < k) (hf : ∀ q, (f q).length = k) (R : α → DataW H → Prop) {t e : TypeId} (ht : Try.prog.underlying t = some (.slice e)) (hce : Try.prog.cellsOf e = k) (hbe : 0 < Try.prog.bytesOf e)
    (each : ∀ (fuel : Nat) (cs : List Value) (x : DataW H × List MemPlace), DataW.trod enc Try.prog W 0 (fun _ => true) true fuel e cs = some x → ∃ q, cs = f q ∧ R q x.1)
    {fuel : Nat} {v : Value} {d : DataW H} {p : List MemPlace} (h : DataW.trod enc Try.prog W 0 (fun _ => true) true fuel t [v] = some (d, p)) (hw : ∀ n ∈ d.weights Try.prog t, n ≤ reachBytes) :
    ∃ (A : Option Addr) (c : Nat) (l : List α), v = .slice A l.length c ∧ Holds W A (l.flatMap f) ∧ l.length ≤ 140737488355328 ∧ l.length ≤ c ∧ ∀ q ∈ l, ∃ x, R q x ∧ ∀ n ∈ x.weights Try.prog e, n ≤ reachBytes := by
  obtain ⟨A, c, l, h1, h2, h3, h4, h5, _⟩ := open_structsB f hk hf R ht hce hbe each h hw
  exact ⟨A, c, l, h1, h2, h3, h4, h5⟩
theorem nt_cellsStr : Try.prog.cellsOf 9 = 1 := by kernel_rfl
theorem nt_cellsBool : Try.prog.cellsOf 4 = 1 := by kernel_rfl
abbrev blkC (b : BlockD) : List Value := [Sv b.name, Iv b.x, Iv b.y]
abbrev spurC (s : SpurD) : List Value := [Sv s.name, Bo s.depot, Iv s.inn, Iv s.out, Iv s.slots, Iv s.base]
theorem blkC_all : ∀ l : List BlockD, l.flatMap blkC = blockCells l
  | [] => rfl
  | b :: l => by rw [List.flatMap_cons, blkC_all l]; rfl
theorem spurC_all : ∀ l : List SpurD, l.flatMap spurC = spurCells l
  | [] => rfl
  | b :: l => by rw [List.flatMap_cons, spurC_all l]; rfl
set_option maxRecDepth 100000 in
/-- The three cells of a block. -/
theorem nt_trodBlk {H : Type} {enc : TypeId × Value → H} {W : World} (fuel : Nat) (cs : List Value) (x : DataW H × List MemPlace) (h : DataW.trod enc Try.prog W 0 (fun _ => true) true fuel 87 cs = some x) :
    ∃ b : BlockD, cs = blkC b ∧ x.1 = .agg [.lit (.string b.name), .lit (.int .i64 b.x), .lit (.int .i64 b.y)] := by
  obtain ⟨xs, n, rfl, rfl, hlen, hxl, hf⟩ := DataW.trod_struct Try.underlying87 h
  rw [show Try.prog.cellsOf 87 = 3 by kernel_rfl] at hlen
  match xs, hxl, cs, hlen with
  | [y0, y1, y2], _, [v0, v1, v2], _ =>
    have g0 := hf 0 _ rfl
    have g1 := hf 1 _ rfl
    have g2 := hf 2 _ rfl
    simp [cellsInt, nt_cellsStr] at g0 g1 g2
    obtain ⟨s, e0, f0, _⟩ := DataW.trod_string Try.underlying9 g0
    obtain ⟨a, e1, f1, w1⟩ := DataW.trod_int Try.underlying3 g1
    obtain ⟨b, e2, f2, w2⟩ := DataW.trod_int Try.underlying3 g2
    simp only [List.cons.injEq, and_true] at e0 e1 e2
    subst e0 e1 e2 f0 f1 f2
    exact ⟨⟨s.data.toList, a, b⟩, rfl, rfl⟩
set_option maxRecDepth 100000 in
/-- The six cells of a spur. -/
theorem nt_trodSpur {H : Type} {enc : TypeId × Value → H} {W : World} (fuel : Nat) (cs : List Value) (x : DataW H × List MemPlace) (h : DataW.trod enc Try.prog W 0 (fun _ => true) true fuel 66 cs = some x) :
    ∃ s : SpurD, cs = spurC s ∧ ∃ d1 d2 d3 d4 d5, x.1 = .agg [.lit (.string s.name), d1, d2, d3, d4, d5] := by
  obtain ⟨xs, n, rfl, rfl, hlen, hxl, hf⟩ := DataW.trod_struct Try.underlying66 h
  rw [show Try.prog.cellsOf 66 = 6 by kernel_rfl] at hlen
  match xs, hxl, cs, hlen with
  | [y0, y1, y2, y3, y4, y5], _, [v0, v1, v2, v3, v4, v5], _ =>
    have g0 := hf 0 _ rfl
    have g1 := hf 1 _ rfl
    have g2 := hf 2 _ rfl
    have g3 := hf 3 _ rfl
    have g4 := hf 4 _ rfl
    have g5 := hf 5 _ rfl
    simp [cellsInt, nt_cellsStr, nt_cellsBool] at g0 g1 g2 g3 g4 g5
    obtain ⟨s, e0, f0, _⟩ := DataW.trod_string Try.underlying9 g0
    obtain ⟨dp, e1, f1⟩ := DataW.trod_bool Try.underlying4 g1
    obtain ⟨a2, e2, f2, _⟩ := DataW.trod_int Try.underlying3 g2
    obtain ⟨a3, e3, f3, _⟩ := DataW.trod_int Try.underlying3 g3
    obtain ⟨a4, e4, f4, _⟩ := DataW.trod_int Try.underlying3 g4
    obtain ⟨a5, e5, f5, _⟩ := DataW.trod_int Try.underlying3 g5
    simp only [List.cons.injEq, and_true] at e0 e1 e2 e3 e4 e5
    subst e0 e1 e2 e3 e4 e5 f0 f1 f2 f3 f4 f5
    exact ⟨⟨s.data.toList, dp, a2, a3, a4, a5⟩, rfl, _, _, _, _, _, rfl⟩
set_option maxRecDepth 100000 in
/-- A list of numbers inside of an argument. -/
theorem nt_nums {H : Type} {enc : TypeId × Value → H} {W : World} {fuel : Nat} {v : Value} {d : DataW H} {p : List MemPlace}
    (h : DataW.trod enc Try.prog W 0 (fun _ => true) true fuel 25 [v] = some (d, p)) (hw : ∀ n ∈ d.weights Try.prog 25, n ≤ reachBytes) :
    ∃ (A : Option Addr) (c : Nat) (zs : List Int), v = .slice A zs.length c ∧ Holds W A (zs.map Iv) ∧ zs.length ≤ 17592186044416 ∧ zs.length ≤ c := by
  rcases open_ints Try.underlying25 Try.underlying3 cellsInt h with ⟨hcs, hx⟩ | ⟨a, len, cap, zs, hcs, _, hl, hm, hz, hx, hcell, hwz⟩
  · obtain rfl : v = .slice none 0 0 := by simpa using hcs
    exact ⟨none, 0, [], rfl, .inl rfl, by simp, by simp⟩
  · obtain rfl : v = .slice (some a) len cap := by simpa using hcs
    simp only [if_true] at hz
    have hd := congrArg Prod.fst hx
    have hb : Try.prog.bytesOf 3 = 8 := by kernel_rfl
    have h1 := hw (((zs.take len).length + (zs.drop len).length) * 8) (by
      simp only at hd
      rw [hd]; simp [lits, DataW.weights, Try.underlying25, hb])
    unfold reachBytes at h1
    have hlen : (zs.take len).length = len := by simp; omega
    refine ⟨some a, cap, zs.take len, by rw [hlen], ?_, by omega, by omega⟩
    rcases Nat.eq_zero_or_pos len with h0 | h0
    · subst h0; exact .inl (by simp)
    · have hp := addr_plain (hcell 0 (by omega))
      have hblk := World.block_lt_of_cell? _ _ (hcell 0 (by omega))
      rw [hp] at hblk
      refine .inr ⟨a.block, a.off, congrArg some hp, by simpa [Addr.add] using hblk, fun j hj => ?_⟩
      have hj' : j < len := by rwa [List.length_map, hlen] at hj
      have e := hcell j (by omega)
      rw [hp, addr_add] at e
      rw [e, List.getD_eq_getElem?_getD, List.getElem?_eq_getElem (show j < zs.length by omega)]
      simp
set_option maxRecDepth 100000 in
/-- Lists of numbers inside of an argument. -/
theorem nt_rows {H : Type} {enc : TypeId × Value → H} {W : World} {v : Value} {d : DataW H} {p : List MemPlace} {fuel : Nat}
    (hf : DataW.trod enc Try.prog W 0 (fun _ => true) true fuel 23 [v] = some (d, p)) (hw : ∀ n ∈ d.weights Try.prog 23, n ≤ reachBytes) :
    ∃ (A : Option Addr) (c : Nat) (g : GraphD), v = .slice A g.length c ∧ RowsAt W A g ∧ (g.length ≤ 1000000000000000000 ∧ ∀ r ∈ g, r.length ≤ 1000000000000000000) := by
  rcases open_int_rows Try.underlying23 Try.underlying25 Try.underlying3 (by kernel_rfl) cellsInt hf with ⟨hcs, hx⟩ | ⟨a, len, cap, A, L, C, Z, hcs, _, hl, hm, hx, hrow⟩
  · obtain rfl : v = .slice none 0 0 := by simpa using hcs
    exact ⟨none, 0, [], rfl, .inl rfl, by simp, by simp⟩
  · obtain rfl : v = .slice (some a) len cap := by simpa using hcs
    have hd := congrArg Prod.fst hx
    simp only at hd
    have hb : Try.prog.bytesOf 25 = 24 := by kernel_rfl
    have hb2 : Try.prog.bytesOf 3 = 8 := by kernel_rfl
    have h1 := hw ((len + (cap - len)) * 24) (by
      rw [hd]; simp [DataW.weights, Try.underlying23, hb])
    unfold reachBytes at h1
    have hlen : ((List.range len).map fun r => (Z r).take (L r)).length = len := by simp
    have hL : ∀ r, r < len → ((Z r).take (L r)).length = L r := fun r hr => by
      obtain ⟨_, e2, _, e4, _⟩ := hrow r (by omega)
      simp; omega
    have hS : ∀ r, r < len → L r ≤ 1000000000000000000 := fun r hr => by
      obtain ⟨_, e2, _, e4, _, e6, _⟩ := hrow r (by omega)
      rcases hA : A r with _ | a'
      · have := e6 hA; omega
      · have h2 := hw ((((Z r).take (L r)).length + ((Z r).drop (L r)).length) * 8) (by
          rw [hd]; simp only [DataW.weights, Try.underlying23]
          refine List.mem_cons_of_mem _ (List.mem_append_left _ (weightsAll_mem (List.mem_map.2 ⟨r, List.mem_range.2 hr, rfl⟩) ?_))
          rw [hA]
          simp [intRow, lits, DataW.weights, Try.underlying25, hb2])
        unfold reachBytes at h2
        have := hL r hr
        omega
    refine ⟨some a, cap, (List.range len).map fun r => (Z r).take (L r), by rw [hlen], ?_, by rw [hlen]; omega, ?_⟩
    · by_cases h0 : len = 0
      · subst h0; exact .inl rfl
      · have hc0 := (hrow 0 (by omega)).1
        have hp := addr_plain hc0
        have hblk := World.block_lt_of_cell? _ _ hc0
        rw [hp] at hblk
        refine .inr ⟨a.block, a.off, congrArg some hp, by simpa [Addr.add] using hblk, fun j hj => ?_⟩
        have hj' : j < len := by simpa using hj
        obtain ⟨e1, e2, _, e4, _, e6, e7⟩ := hrow j (by omega)
        rw [hp, addr_add] at e1
        have hg : ((List.range len).map fun r => (Z r).take (L r))[j] = (Z j).take (L j) := by simp
        refine ⟨A j, C j, by rw [hg, hL j hj', e1], ?_⟩
        rw [hg]
        rcases hA : A j with _ | a'
        · have h3 := e6 hA
          have h4 : (Z j).take (L j) = [] := List.eq_nil_of_length_eq_zero (by rw [hL j hj']; omega)
          rw [h4]; exact .inl rfl
        · refine holds_cells fun i hi => ?_
          have hi' : i < L j := by have := hL j hj'; rw [List.length_map] at hi; omega
          rw [(e7 a' hA).2 i (by omega)]
          simp [List.getD, show i < (Z j).length by omega]
    · intro r hr
      obtain ⟨i, hi, rfl⟩ := List.mem_map.1 hr
      rw [hL i (List.mem_range.1 hi)]
      exact hS i (List.mem_range.1 hi)
set_option maxRecDepth 100000 in
set_option maxHeartbeats 2000000 in
/-- An argument of type api.Net. -/
theorem open_net {H : Type} {enc : TypeId × Value → H} {W : World} {v : Value} {d : DataW H} {p : List MemPlace} {base : Nat}
    (hok : Value.okWide Try.prog W .any base 29 v) (h : DataW.Trod enc Try.prog W 0 (fun _ => true) true 29 v d p) (hw : ∀ n ∈ d.weights Try.prog 29, n ≤ reachBytes) :
    ∃ (Ab An As Ar : Option Addr) (cb cn cs cr : Nat) (N : NetD), v = .agg (netCells Ab An As Ar cb cn cs cr N) ∧ NetAt W Ab An As Ar N ∧ NetLen N ∧ N.robots.length ≤ cr := by
  obtain ⟨CS, rfl, _⟩ := okWide_struct Try.underlying29 hok
  obtain ⟨fuel, hf⟩ := h
  obtain ⟨CL, hC⟩ : ∃ CL, (Value.agg CS).cells.toList = CL := ⟨_, rfl⟩
  have hf' : DataW.trod enc Try.prog W 0 (fun _ => true) true fuel 29 CL = some (d, p) := by rw [← hC]; exact hf
  obtain ⟨xs, n, hn, hxx, hlen, hxl, hff⟩ := DataW.trod_struct Try.underlying29 hf'
  rw [show Try.prog.cellsOf 29 = 8 by kernel_rfl] at hlen
  match xs, hxl, CL, hlen, hff, hxx, hC with
  | [y0, y1, y2, y3, y4], _, [v0, v1, v2, v3, v4, v5, v6, v7], _, hff, hxx, hC =>
    have f0 := hff 0 _ rfl
    have f1 := hff 1 _ rfl
    have f2 := hff 2 _ rfl
    have f3 := hff 3 _ rfl
    have f4 := hff 4 _ rfl
    simp [show Try.prog.cellsOf 22 = 1 by kernel_rfl, show Try.prog.cellsOf 23 = 1 by kernel_rfl, show Try.prog.cellsOf 24 = 1 by kernel_rfl, show Try.prog.cellsOf 25 = 1 by kernel_rfl, show Try.prog.cellsOf 27 = 4 by kernel_rfl] at f0 f1 f2 f3 f4
    have hDi : d = .agg [y0.1, y1.1, y2.1, y3.1, y4.1] := congrArg Prod.fst hxx
    have w0 : ∀ n ∈ y0.1.weights Try.prog 22, n ≤ reachBytes := fun n hn => hw n (by
      rw [hDi]; simp [DataW.weights, Try.underlying29, DataW.weightsEach, hn])
    have w1 : ∀ n ∈ y1.1.weights Try.prog 23, n ≤ reachBytes := fun n hn => hw n (by
      rw [hDi]; simp [DataW.weights, Try.underlying29, DataW.weightsEach, hn])
    have w2 : ∀ n ∈ y2.1.weights Try.prog 24, n ≤ reachBytes := fun n hn => hw n (by
      rw [hDi]; simp [DataW.weights, Try.underlying29, DataW.weightsEach, hn])
    have w3 : ∀ n ∈ y3.1.weights Try.prog 25, n ≤ reachBytes := fun n hn => hw n (by
      rw [hDi]; simp [DataW.weights, Try.underlying29, DataW.weightsEach, hn])
    haveI : Inhabited BlockD := ⟨⟨[], 0, 0⟩⟩
    haveI : Inhabited SpurD := ⟨⟨[], false, 0, 0, 0, 0⟩⟩
    obtain ⟨Ab, cb, bl, rfl, hb, hb1, _, hb2⟩ := open_structs blkC (k := 3) (by omega) (fun _ => rfl) (fun b x => x = .agg [.lit (.string b.name), .lit (.int .i64 b.x), .lit (.int .i64 b.y)]) Try.underlying22 (by kernel_rfl) (by rw [show Try.prog.bytesOf 87 = 32 by kernel_rfl]; omega) (fun fu cs x hx => nt_trodBlk fu cs x hx) (d := y0.1) (p := y0.2) f0 w0
    obtain ⟨An, cn, g, rfl, hg, hg1⟩ := nt_rows (d := y1.1) (p := y1.2) f1 w1
    obtain ⟨As, cs, sl, rfl, hs, hs1, _, hs2⟩ := open_structs spurC (k := 6) (by omega) (fun _ => rfl) (fun s x => ∃ d1 d2 d3 d4 d5, x = .agg [.lit (.string s.name), d1, d2, d3, d4, d5]) Try.underlying24 (by kernel_rfl) (by rw [show Try.prog.bytesOf 66 = 56 by kernel_rfl]; omega) (fun fu cs x hx => nt_trodSpur fu cs x hx) (d := y2.1) (p := y2.2) f2 w2
    obtain ⟨Ar, cr, rs, rfl, hr, hr1, hr2⟩ := nt_nums (d := y3.1) (p := y3.2) f3 w3
    obtain ⟨zs, n4, hn4, hzx, hzl, hzl2, hzf⟩ := DataW.trod_struct Try.underlying27 f4
    match zs, hzl2, hzf with
    | [z0, z1, z2, z3], _, hzf =>
      have q0 := hzf 0 _ rfl
      have q1 := hzf 1 _ rfl
      have q2 := hzf 2 _ rfl
      have q3 := hzf 3 _ rfl
      simp [cellsInt] at q0 q1 q2 q3
      obtain ⟨a0, e0, _, _⟩ := DataW.trod_int Try.underlying3 q0
      obtain ⟨a1, e1, _, _⟩ := DataW.trod_int Try.underlying3 q1
      obtain ⟨a2, e2, _, _⟩ := DataW.trod_int Try.underlying3 q2
      obtain ⟨a3, e3, _, _⟩ := DataW.trod_int Try.underlying3 q3
      simp only [List.cons.injEq, and_true] at e0 e1 e2 e3
      subst e0 e1 e2 e3
      rw [blkC_all] at hb
      rw [spurC_all] at hs
      refine ⟨Ab, An, As, Ar, cb, cn, cs, cr, ⟨bl, g, sl, rs, a0, a1, a2, a3⟩, ?_, ⟨hb, hg, hs, hr⟩, ⟨by simp only; omega, hg1.1, hg1.2, by simp only; omega, by simp only; omega, ?_⟩, hr2⟩
      · rw [show CS = netCells Ab An As Ar cb cn cs cr ⟨bl, g, sl, rs, a0, a1, a2, a3⟩ from Array.toList_inj.1 (by simpa [Value.cells] using hC)]
      · intro s hs'
        unfold maxLen
        rcases List.mem_append.1 hs' with hm | hm
        · obtain ⟨b, hbm, rfl⟩ := List.mem_map.1 hm
          obtain ⟨x, rfl, hx⟩ := hb2 b hbm
          have := hx b.name.length (by simp [DataW.weights, Try.underlying87, DataW.weightsEach])
          unfold reachBytes at this
          omega
        · obtain ⟨b, hbm, rfl⟩ := List.mem_map.1 hm
          obtain ⟨x, ⟨_, _, _, _, _, rfl⟩, hx⟩ := hs2 b hbm
          have := hx b.name.length (by simp [DataW.weights, Try.underlying66, DataW.weightsEach])
          unfold reachBytes at this
          omega
set_option maxRecDepth 100000 in
/-- An argument of type []bool holds a list of bools. -/
theorem nt_bools {H : Type} {enc : TypeId × Value → H} {W : World} {v : Value} {d : DataW H} {p : List MemPlace} {base : Nat}
    (hok : Value.okWide Try.prog W .any base 113 v) (h : DataW.Trod enc Try.prog W 0 (fun _ => true) true 113 v d p) :
    ∃ (A : Option Addr) (c : Nat) (s : List Bool), v = .slice A s.length c ∧ Holds W A (s.map Bo) ∧ s.length ≤ c := by
  obtain ⟨a0, len, cap, rfl⟩ := okWide_slice Try.underlying113 hok
  obtain ⟨fuel, hf⟩ := h
  rcases open_bools Try.underlying113 (by kernel_rfl) (by kernel_rfl) hf with ⟨hcs, hx⟩ | ⟨a, len', cap', B, hcs, _, hl, hm, hx, hcell⟩
  · simp [Value.cells] at hcs
    obtain ⟨rfl, rfl, rfl⟩ := hcs
    exact ⟨none, 0, [], rfl, .inl rfl, by simp⟩
  · simp [Value.cells] at hcs
    obtain ⟨rfl, rfl, rfl⟩ := hcs
    have hlen : ((List.range len).map B).length = len := by simp
    refine ⟨some a, cap, (List.range len).map B, by rw [hlen], holds_cells fun j hj => ?_, by rw [hlen]; omega⟩
    have hj' : j < len := by simpa using hj
    rw [hcell j (by omega)]
    simp
/-- The type is an array, its value an aggregate. -/
theorem nt_arr {P : Program} {w : World} {r : Reach} {base : Nat} {t : TypeId} {v : Value} {n : Nat} {e : TypeId} (ht : P.underlying t = some (.array n e)) (h : Value.okWide P w r base t v) : ∃ cs, v = .agg cs ∧ cs.size = P.cellsOf t := by
  simp only [Value.okWide, ht] at h
  obtain ⟨cs, h1, h2, _⟩ := h
  exact ⟨cs, h1, h2⟩
end Go.Proofs.Ytmdnkpiihhaoeaa
namespace Go.Proofs.Ytmdnkpiihhaoeaa
open Go.ChangeShapes Go.WideShapes Go.ChangeAt Go.RowKit Go.Deep Fl

end Go.Proofs.Ytmdnkpiihhaoeaa
