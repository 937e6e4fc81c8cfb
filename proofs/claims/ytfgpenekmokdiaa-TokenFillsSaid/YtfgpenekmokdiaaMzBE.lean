/- Joined texts. -/
import Derived.OpenShut
import Derived.Test.YtfgpenekmokdiaaRows
import Derived.Test.YtfgpenekmokdiaaMzAO
import Derived.Carry
import Derived.SizedLaws
import Derived.ProofKit
import Derived.Deep.DeepHandedRow
import Derived.Lib.LaidTab
import Derived.Deep.Matrix
import Derived.Deep.Grids
import Derived.Test.YtfgpenekmokdiaaMzBA
import Derived.Deep.Slices
namespace Go.Proofs.Ytfgpenekmokdiaa
open Go.ChangeShapes Go.WideShapes Go.ChangeAt Go.RowKit

theorem own_none : ownKnob Try.prog.godebug = none := by kernel_rfl
noncomputable def laidWorld (os : Os) : World := World.holding Try.prog os ⟨#[], #[], []⟩
theorem laid_at (os : Os) (args : Array Value) : laidMet Try.prog [] ((laidWorld os).forCall (fun _ _ => 0) ⟨#[], args, []⟩).memory :=
  laidMet_of_run' 8 (by kernel_rfl) (by kernel_rfl)
theorem laidOut : laidOutB Try.prog = true := by kernel_rfl
theorem cellsInt : Try.prog.cellsOf 3 = 1 := by kernel_rfl
set_option maxRecDepth 100000 in
/-- An argument of type []int holds a list of numbers. -/
theorem open_list {H : Type} {enc : TypeId × Value → H} {W : World} {v : Value} {d : DataW H} {p : List MemPlace} {base : Nat}
    (hok : Value.okWide Try.prog W .any base 23 v) (h : DataW.Trod enc Try.prog W 0 (fun _ => true) true 23 v d p) :
    ∃ (A : Option Addr) (c : Nat) (zs : List Int), v = .slice A zs.length c ∧ IntsAt W W.heap.size A zs ∧ zs.length ≤ maxLen := by
  obtain ⟨a0, len, cap, rfl⟩ := okWide_slice Try.underlying23 hok
  obtain ⟨fuel, hf⟩ := h
  rcases open_ints Try.underlying23 Try.underlying3 cellsInt hf with ⟨hcs, hx⟩ | ⟨a, len', cap', zs, hcs, _, hl, hm, hz, hx, hcell, hwz⟩
  · simp [Value.cells] at hcs
    obtain ⟨rfl, rfl, rfl⟩ := hcs
    exact ⟨none, 0, [], rfl, fun h => by simp at h, by simp⟩
  · simp [Value.cells] at hcs
    obtain ⟨rfl, rfl, rfl⟩ := hcs
    simp only [if_true] at hz
    have hlen : (zs.take len).length = len := by simp; omega
    refine ⟨some a, cap, zs.take len, by rw [hlen], fun hn => ?_, by rw [hlen]; omega⟩
    rw [hlen] at hn
    obtain ⟨b, off, rfl, hc⟩ := ints_at hcell (by omega)
    refine ⟨b, off, rfl, World.block_lt_of_cell? _ _ (hc 0 (by omega)), fun j hj => ?_⟩
    rw [hlen] at hj
    have hjz : j < zs.length := by omega
    have hwj := bounds_i64 (hwz _ (List.getElem_mem hjz))
    have e : (zs.take len)[j]'(by rw [hlen]; exact hj) = zs[j] := by simp
    rw [e]
    refine ⟨?_, hwj.1, hwj.2⟩
    rw [hc j hjz]
    simp [List.getD, hjz]
end Go.Proofs.Ytfgpenekmokdiaa
namespace Go.Proofs.Ytfgpenekmokdiaa
open Go.ChangeShapes Go.WideShapes Go.ChangeAt Go.RowKit Go.Deep Fl

theorem weightsAll_mem {H : Type} {P : Program} {e : TypeId} {d : DataW H} {n : Nat} : ∀ {ds : List (DataW H)}, d ∈ ds → n ∈ d.weights P e → n ∈ DataW.weightsAll P e ds
  | [], h, _ => by simp at h
  | x :: r, h, hn => by
    rw [DataW.weightsAll, List.mem_append]
    rcases List.mem_cons.1 h with rfl | h
    · exact .inl hn
    · exact .inr (weightsAll_mem h hn)
theorem addr_plain {W : World} {a : Addr} {v : Value} (h : W.cell? (a.add 0) = some v) : a = ⟨a.block, a.off, none⟩ := by
  obtain ⟨b, o, s⟩ := a
  have hs : s = none := by simpa [Addr.add] using World.cell?_spot h
  rw [hs]
theorem addr_add (b o j : Nat) : (⟨b, o, none⟩ : Addr).add j = ⟨b, o + j, none⟩ := by
  unfold Addr.add; split <;> simp_all
/-- A row of cells, given one by one. -/
theorem holds_cells {W : World} {a : Addr} {xs : List Value} (h : ∀ j (hj : j < xs.length), W.cell? (a.add j) = some xs[j]) : Holds W (some a) xs := by
  rcases Nat.eq_zero_or_pos xs.length with h0 | h0
  · exact .inl (List.eq_nil_of_length_eq_zero h0)
  · have hp := addr_plain (h 0 h0)
    have hblk := World.block_lt_of_cell? _ _ (h 0 h0)
    rw [hp] at hblk
    refine .inr ⟨a.block, a.off, congrArg some hp, by simpa [Addr.add] using hblk, fun j hj => ?_⟩
    have e := h j hj
    rw [hp, addr_add] at e
    exact e
set_option maxRecDepth 100000 in
/-- An argument of type []bool holds a list of bools. -/
theorem open_boolsG {H : Type} {enc : TypeId × Value → H} {W : World} {v : Value} {d : DataW H} {p : List MemPlace} {base : Nat}
    (hok : Value.okWide Try.prog W .any base 50 v) (h : DataW.Trod enc Try.prog W 0 (fun _ => true) true 50 v d p) (hw : ∀ n ∈ d.weights Try.prog 50, n ≤ reachBytes) :
    ∃ (A : Option Addr) (c : Nat) (s : List Bool), v = .slice A s.length c ∧ Holds W A (s.map Bo) ∧ s.length ≤ 1000000000000000000 := by
  obtain ⟨a0, len, cap, rfl⟩ := okWide_slice Try.underlying50 hok
  obtain ⟨fuel, hf⟩ := h
  rcases open_bools Try.underlying50 (by kernel_rfl) (by kernel_rfl) hf with ⟨hcs, hx⟩ | ⟨a, len', cap', B, hcs, _, hl, hm, hx, hcell⟩
  · simp [Value.cells] at hcs
    obtain ⟨rfl, rfl, rfl⟩ := hcs
    exact ⟨none, 0, [], rfl, .inl rfl, by simp⟩
  · simp [Value.cells] at hcs
    obtain ⟨rfl, rfl, rfl⟩ := hcs
    have hd := congrArg Prod.fst hx
    have hb : Try.prog.bytesOf 4 = 1 := by kernel_rfl
    have h1 := hw ((len + (cap - len)) * 1) (by
      simp only at hd
      rw [hd]; simp [boolRow, DataW.weights, Try.underlying50, hb])
    unfold reachBytes at h1
    have hlen : ((List.range len).map B).length = len := by simp
    refine ⟨some a, cap, (List.range len).map B, by rw [hlen], holds_cells fun j hj => ?_, by rw [hlen]; omega⟩
    have hj' : j < len := by simpa using hj
    rw [hcell j (by omega)]
    simp
set_option maxRecDepth 100000 in
/-- An argument of type [][]int holds lists of numbers. -/
theorem open_rowsG {H : Type} {enc : TypeId × Value → H} {W : World} {v : Value} {d : DataW H} {p : List MemPlace} {base : Nat}
    (hok : Value.okWide Try.prog W .any base 22 v) (h : DataW.Trod enc Try.prog W 0 (fun _ => true) true 22 v d p) (hw : ∀ n ∈ d.weights Try.prog 22, n ≤ reachBytes) :
    ∃ (A : Option Addr) (c : Nat) (g : GraphD), v = .slice A g.length c ∧ RowsAt W A g ∧ Sized g := by
  obtain ⟨a0, len, cap, rfl⟩ := okWide_slice Try.underlying22 hok
  obtain ⟨fuel, hf⟩ := h
  rcases open_int_rows Try.underlying22 Try.underlying23 Try.underlying3 (by kernel_rfl) cellsInt hf with ⟨hcs, hx⟩ | ⟨a, len', cap', A, L, C, Z, hcs, _, hl, hm, hx, hrow⟩
  · simp [Value.cells] at hcs
    obtain ⟨rfl, rfl, rfl⟩ := hcs
    exact ⟨none, 0, [], rfl, .inl rfl, by simp, by simp⟩
  · simp [Value.cells] at hcs
    obtain ⟨rfl, rfl, rfl⟩ := hcs
    have hd := congrArg Prod.fst hx
    simp only at hd
    have hb : Try.prog.bytesOf 23 = 24 := by kernel_rfl
    have hb2 : Try.prog.bytesOf 3 = 8 := by kernel_rfl
    have h1 := hw ((len + (cap - len)) * 24) (by
      rw [hd]; simp [DataW.weights, Try.underlying22, hb])
    unfold reachBytes at h1
    have hlen : ((List.range len).map fun r => (Z r).take (L r)).length = len := by simp
    have hL : ∀ r, r < len → ((Z r).take (L r)).length = L r := fun r hr => by
      obtain ⟨_, e2, _, e4, _⟩ := hrow r (by omega)
      simp; omega
    have hS : ∀ r, r < len → L r ≤ 1000000000000000000 := fun r hr => by
      obtain ⟨_, e2, _, e4, _, e6, _⟩ := hrow r (by omega)
      rcases hA : A r with _ | a'
      · have := e6 hA; omega
      · have h2 := hw ((((Z r).take (L r)).length + ((Z r).drop (L r)).length) * 8) (by
          rw [hd]; simp only [DataW.weights, Try.underlying22]
          refine List.mem_cons_of_mem _ (List.mem_append_left _ (weightsAll_mem (List.mem_map.2 ⟨r, List.mem_range.2 hr, rfl⟩) ?_))
          rw [hA]
          simp [intRow, lits, DataW.weights, Try.underlying23, hb2])
        unfold reachBytes at h2
        have := hL r hr
        omega
    refine ⟨some a, cap, (List.range len).map fun r => (Z r).take (L r), by rw [hlen], ?_, by rw [hlen]; omega, ?_⟩
    · by_cases h0 : len = 0
      · subst h0; exact .inl rfl
      · have hc0 := (hrow 0 (by omega)).1
        have hp := addr_plain hc0
        have hblk := World.block_lt_of_cell? _ _ hc0
        rw [hp] at hblk
        refine .inr ⟨a.block, a.off, congrArg some hp, by simpa [Addr.add] using hblk, fun j hj => ?_⟩
        have hj' : j < len := by simpa using hj
        obtain ⟨e1, e2, _, e4, _, e6, e7⟩ := hrow j (by omega)
        rw [hp, addr_add] at e1
        have hg : ((List.range len).map fun r => (Z r).take (L r))[j] = (Z j).take (L j) := by simp
        refine ⟨A j, C j, by rw [hg, hL j hj', e1], ?_⟩
        rw [hg]
        rcases hA : A j with _ | a'
        · have h3 := e6 hA
          have h4 : (Z j).take (L j) = [] := List.eq_nil_of_length_eq_zero (by rw [hL j hj']; omega)
          rw [h4]; exact .inl rfl
        · refine holds_cells fun i hi => ?_
          have hi' : i < L j := by have := hL j hj'; rw [List.length_map] at hi; omega
          rw [(e7 a' hA).2 i (by omega)]
          simp [List.getD, show i < (Z j).length by omega]
    · intro r hr
      obtain ⟨i, hi, rfl⟩ := List.mem_map.1 hr
      rw [hL i (List.mem_range.1 hi)]
      exact hS i (List.mem_range.1 hi)
end Go.Proofs.Ytfgpenekmokdiaa
namespace Go.Proofs.Ytfgpenekmokdiaa
open Go.ChangeShapes Go.WideShapes Go.ChangeAt Go.RowKit Go.Deep Fl

theorem cellsMov : Try.prog.cellsOf 42 = 3 := by kernel_rfl
set_option maxRecDepth 100000 in
/-- The three cells of a move. -/
theorem trod_mov {H : Type} {enc : TypeId × Value → H} {W : World} {base fuel : Nat} {spare : Nat → Bool} {held : Bool} {cs : List Value} {x : DataW H × List MemPlace} (h : DataW.trod enc Try.prog W base spare held fuel 42 cs = some x) :
    ∃ b : MoveD, cs = [Iv b.tok, Iv b.frm, Iv b.dst] ∧ x.1 = .agg [.lit (.int .i64 b.tok), .lit (.int .i64 b.frm), .lit (.int .i64 b.dst)] ∧ x.2 = [] := by
  obtain ⟨xs, n, rfl, rfl, hlen, hxl, hf⟩ := DataW.trod_struct Try.underlying42 h
  rw [cellsMov] at hlen
  match xs, hxl, cs, hlen with
  | [y0, y1, y2], _, [v0, v1, v2], _ =>
    have g0 := hf 0 _ rfl
    have g1 := hf 1 _ rfl
    have g2 := hf 2 _ rfl
    simp [cellsInt] at g0 g1 g2
    obtain ⟨s, e0, f0, w0⟩ := DataW.trod_int Try.underlying3 g0
    obtain ⟨a, e1, f1, w1⟩ := DataW.trod_int Try.underlying3 g1
    obtain ⟨b, e2, f2, w2⟩ := DataW.trod_int Try.underlying3 g2
    simp only [List.cons.injEq, and_true] at e0 e1 e2
    subst e0 e1 e2 f0 f1 f2
    exact ⟨⟨s, a, b⟩, rfl, rfl, rfl⟩
set_option maxRecDepth 100000 in
/-- An argument of type []api.Move. -/
theorem open_moves {H : Type} {enc : TypeId × Value → H} {W : World} {v : Value} {d : DataW H} {p : List MemPlace} {base : Nat}
    (hok : Value.okWide Try.prog W .any base 37 v) (h : DataW.Trod enc Try.prog W 0 (fun _ => true) true 37 v d p) (hw : ∀ n ∈ d.weights Try.prog 37, n ≤ reachBytes) :
    ∃ (A : Option Addr) (c : Nat) (l : List MoveD), v = .slice A l.length c ∧ Holds W A (moveCells l) ∧ l.length ≤ 1000000000000000000 := by
  obtain ⟨a0, len0, cap0, rfl⟩ := okWide_slice Try.underlying37 hok
  obtain ⟨fuel, hf⟩ := h
  rcases open_slice Try.underlying37 hf with ⟨hcs, hx⟩ | ⟨a, len, cap, m, n, D, Pl, hcs, _, hl, hm, hmm, hx, hcell⟩
  · simp [Value.cells] at hcs
    obtain ⟨rfl, rfl, rfl⟩ := hcs
    exact ⟨none, 0, [], rfl, .inl rfl, by simp⟩
  · simp [Value.cells] at hcs
    obtain ⟨rfl, rfl, rfl⟩ := hcs
    simp only [if_true] at hmm
    subst hmm
    have hd : d = .slice ((List.range len0).map D) ((List.range (m - len0)).map fun j => D (len0 + j)) := congrArg Prod.fst hx
    have hb : Try.prog.bytesOf 42 = 24 := by kernel_rfl
    have h1 := hw ((len0 + (m - len0)) * 24) (by
      rw [hd]; simp [DataW.weights, Try.underlying37, hb])
    rw [cellsMov] at hcell
    have each : ∀ i, i < len0 → ∃ b : MoveD, ∀ j u, [Iv b.tok, Iv b.frm, Iv b.dst][j]? = some u → W.cell? (a.add (i * 3 + j)) = some u := fun i hi => by
      obtain ⟨cs', g1, g2⟩ := hcell i (by omega)
      obtain ⟨b, rfl, _⟩ := trod_mov g2
      obtain ⟨_, hlen, hc⟩ := World.cells?_some g1
      refine ⟨b, fun j u hj => ?_⟩
      have hj3 := (List.getElem?_eq_some_iff.1 hj).1
      have e := hc j (by simpa using hj3)
      rw [add_add] at e
      rw [e, ← hj]
    haveI : Inhabited MoveD := ⟨⟨0, 0, 0⟩⟩
    obtain ⟨q, hq⟩ := choose_lt each
    have hlen : ((List.range len0).map q).length = len0 := by simp
    refine ⟨some a, m, (List.range len0).map q, by rw [hlen], ?_, by rw [hlen]; unfold reachBytes at h1; omega⟩
    by_cases h0 : len0 = 0
    · subst h0; exact .inl rfl
    · have hc0 := hq 0 (by omega) 0 _ rfl
      have hp := addr_plain hc0
      have hblk := World.block_lt_of_cell? _ _ hc0
      have key : ∀ (l : List MoveD) (j : Nat) u, (moveCells l)[j]? = some u → ∃ b, l[j / 3]? = some b ∧ [Iv b.tok, Iv b.frm, Iv b.dst][j % 3]? = some u := by
        intro l
        induction l with
        | nil => intro j u h; simp [moveCells] at h
        | cons b r ih =>
          intro j u h
          match j, h with
          | 0, h => exact ⟨b, rfl, h⟩
          | 1, h => exact ⟨b, rfl, h⟩
          | 2, h => exact ⟨b, rfl, h⟩
          | j + 3, h =>
            obtain ⟨b', g1, g2⟩ := ih j u (by simpa [moveCells] using h)
            refine ⟨b', ?_, ?_⟩
            · rw [show (j + 3) / 3 = j / 3 + 1 by omega]; simpa using g1
            · rw [show (j + 3) % 3 = j % 3 by omega]; exact g2
      rw [hp] at hblk
      refine .inr ⟨a.block, a.off, congrArg some hp, by simpa [Addr.add] using hblk, fun j hj => ?_⟩
      obtain ⟨b, g1, g2⟩ := key _ j _ (List.getElem?_eq_getElem hj)
      have hi : j / 3 < len0 := by have := (List.getElem?_eq_some_iff.1 g1).1; simpa using this
      have e := hq (j / 3) hi (j % 3) _ (by
        have : b = q (j / 3) := by simpa [hi] using g1.symm
        rw [← this]; exact g2)
      rw [show j / 3 * 3 + j % 3 = j by omega, hp, addr_add] at e
      exact e
end Go.Proofs.Ytfgpenekmokdiaa
