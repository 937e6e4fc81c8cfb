/- Arguments of types api.Block and []api.Block opened for the walks. -/
import Derived.Test.YtifnmfljlgaeoaaRhOpen
import Derived.Test.YtifnmfljlgaeoaaPlMade
import Derived.Test.YtifnmfljlgaeoaaRhOpenG
import Derived.Deep.Slices
namespace Go.Proofs.Ytifnmfljlgaeoaa
open Go.ChangeShapes Go.WideShapes Go.ChangeAt Go.RowKit Go.Deep Fl

theorem cellsBlk : Try.prog.cellsOf 23 = 3 := by kernel_rfl
theorem cellsStr : Try.prog.cellsOf 9 = 1 := by kernel_rfl
/-- The three cells of a block. -/
theorem trod_blk {H : Type} {enc : TypeId × Value → H} {W : World} {base fuel : Nat} {spare : Nat → Bool} {held : Bool} {cs : List Value} {x : DataW H × List MemPlace} (h : DataW.trod enc Try.prog W base spare held fuel 23 cs = some x) :
    ∃ b : BlockD, cs = [Sv b.name, Iv b.x, Iv b.y] ∧ x.1 = .agg [.lit (.string b.name), .lit (.int .i64 b.x), .lit (.int .i64 b.y)] ∧ x.2 = [] ∧ (-9223372036854775808 ≤ b.x ∧ b.x ≤ 9223372036854775807) ∧ (-9223372036854775808 ≤ b.y ∧ b.y ≤ 9223372036854775807) := by
  obtain ⟨xs, n, rfl, rfl, hlen, hxl, hf⟩ := DataW.trod_struct Try.underlying23 h
  rw [cellsBlk] at hlen
  match xs, hxl, cs, hlen with
  | [y0, y1, y2], _, [v0, v1, v2], _ =>
    have g0 := hf 0 _ rfl
    have g1 := hf 1 _ rfl
    have g2 := hf 2 _ rfl
    simp [cellsInt, cellsStr] at g0 g1 g2
    obtain ⟨s, e0, f0, _⟩ := DataW.trod_string Try.underlying9 g0
    obtain ⟨a, e1, f1, w1⟩ := DataW.trod_int Try.underlying3 g1
    obtain ⟨b, e2, f2, w2⟩ := DataW.trod_int Try.underlying3 g2
    simp only [List.cons.injEq, and_true] at e0 e1 e2
    subst e0 e1 e2 f0 f1 f2
    exact ⟨⟨s.data.toList, a, b⟩, rfl, rfl, rfl, bounds_i64 w1, bounds_i64 w2⟩
set_option maxRecDepth 100000 in
/-- An argument of type api.Block. -/
theorem open_block {H : Type} {enc : TypeId × Value → H} {W : World} {v : Value} {d : DataW H} {p : List MemPlace} {base : Nat}
    (hok : Value.okWide Try.prog W .any base 23 v) (h : DataW.Trod enc Try.prog W 0 (fun _ => true) true 23 v d p) (hw : ∀ n ∈ d.weights Try.prog 23, n ≤ reachBytes) :
    ∃ b : BlockD, v = BV b ∧ p = [] ∧ b.name.length ≤ 140737488355328 := by
  obtain ⟨cs, rfl, _⟩ := okWide_struct Try.underlying23 hok
  obtain ⟨fuel, hf⟩ := h
  obtain ⟨b, e, hd, hp, _, _⟩ := trod_blk hf
  simp only [Value.cells] at e
  refine ⟨b, ?_, hp, ?_⟩
  · unfold BV
    rw [← Array.toList_inj.1 (by simpa using e : cs.toList = (#[Sv b.name, Iv b.x, Iv b.y] : Array Value).toList)]
  · have h1 := hw b.name.length (by rw [show d = _ from hd]; simp [DataW.weights, Try.underlying23, DataW.weightsEach])
    unfold reachBytes at h1
    omega
set_option maxRecDepth 100000 in
/-- An argument of type []api.Block. -/
theorem open_blocks {H : Type} {enc : TypeId × Value → H} {W : World} {v : Value} {d : DataW H} {p : List MemPlace} {base : Nat}
    (hok : Value.okWide Try.prog W .any base 26 v) (h : DataW.Trod enc Try.prog W 0 (fun _ => true) true 26 v d p) (hw : ∀ n ∈ d.weights Try.prog 26, n ≤ reachBytes) :
    ∃ (A : Option Addr) (c : Nat) (l : List BlockD), v = .slice A l.length c ∧ Holds W A (blockCells l) ∧ l.length ≤ 1000000000000000000 := by
  obtain ⟨a0, len0, cap0, rfl⟩ := okWide_slice Try.underlying26 hok
  obtain ⟨fuel, hf⟩ := h
  rcases open_slice Try.underlying26 hf with ⟨hcs, hx⟩ | ⟨a, len, cap, m, n, D, Pl, hcs, _, hl, hm, hmm, hx, hcell⟩
  · simp [Value.cells] at hcs
    obtain ⟨rfl, rfl, rfl⟩ := hcs
    exact ⟨none, 0, [], rfl, .inl rfl, by simp⟩
  · simp [Value.cells] at hcs
    obtain ⟨rfl, rfl, rfl⟩ := hcs
    simp only [if_true] at hmm
    subst hmm
    have hd : d = .slice ((List.range len0).map D) ((List.range (m - len0)).map fun j => D (len0 + j)) := congrArg Prod.fst hx
    have hb : Try.prog.bytesOf 23 = 32 := by kernel_rfl
    have h1 := hw ((len0 + (m - len0)) * 32) (by
      rw [hd]; simp [DataW.weights, Try.underlying26, hb])
    rw [cellsBlk] at hcell
    have each : ∀ i, i < len0 → ∃ b : BlockD, ∀ j u, [Sv b.name, Iv b.x, Iv b.y][j]? = some u → W.cell? (a.add (i * 3 + j)) = some u := fun i hi => by
      obtain ⟨cs', g1, g2⟩ := hcell i (by omega)
      obtain ⟨b, rfl, _⟩ := trod_blk g2
      obtain ⟨_, hlen, hc⟩ := World.cells?_some g1
      refine ⟨b, fun j u hj => ?_⟩
      have hj3 := (List.getElem?_eq_some_iff.1 hj).1
      have e := hc j (by simpa using hj3)
      rw [add_add] at e
      rw [e, ← hj]
    haveI : Inhabited BlockD := ⟨⟨[], 0, 0⟩⟩
    obtain ⟨q, hq⟩ := choose_lt each
    have hlen : ((List.range len0).map q).length = len0 := by simp
    refine ⟨some a, m, (List.range len0).map q, by rw [hlen], ?_, by rw [hlen]; unfold reachBytes at h1; omega⟩
    by_cases h0 : len0 = 0
    · subst h0; exact .inl rfl
    · have hc0 := hq 0 (by omega) 0 _ rfl
      have hp := addr_plain hc0
      have hblk := World.block_lt_of_cell? _ _ hc0
      have key : ∀ (l : List BlockD) (j : Nat) u, (blockCells l)[j]? = some u → ∃ b, l[j / 3]? = some b ∧ [Sv b.name, Iv b.x, Iv b.y][j % 3]? = some u := by
        intro l
        induction l with
        | nil => intro j u h; simp [blockCells] at h
        | cons b r ih =>
          intro j u h
          match j, h with
          | 0, h => exact ⟨b, rfl, h⟩
          | 1, h => exact ⟨b, rfl, h⟩
          | 2, h => exact ⟨b, rfl, h⟩
          | j + 3, h =>
            obtain ⟨b', g1, g2⟩ := ih j u (by simpa [blockCells] using h)
            refine ⟨b', ?_, ?_⟩
            · rw [show (j + 3) / 3 = j / 3 + 1 by omega]; simpa using g1
            · rw [show (j + 3) % 3 = j % 3 by omega]; exact g2
      rw [hp] at hblk
      refine .inr ⟨a.block, a.off, congrArg some hp, by simpa [Addr.add] using hblk, fun j hj => ?_⟩
      obtain ⟨b, g1, g2⟩ := key _ j _ (List.getElem?_eq_getElem hj)
      have hi : j / 3 < len0 := by have := (List.getElem?_eq_some_iff.1 g1).1; simpa using this
      have e := hq (j / 3) hi (j % 3) _ (by
        have : b = q (j / 3) := by simpa [hi] using g1.symm
        rw [← this]; exact g2)
      rw [show j / 3 * 3 + j % 3 = j by omega, hp, addr_add] at e
      exact e
end Go.Proofs.Ytifnmfljlgaeoaa
