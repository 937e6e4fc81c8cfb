/- An argument of type []api.Frame opened for the walks. -/
import Derived.Test.YtckknakpmaagnaaFrOpen
import Derived.Test.YtckknakpmaagnaaCnMem
import Derived.Deep.Slices
namespace Go.Proofs.Ytckknakpmaagnaa
open Go.ChangeShapes Go.WideShapes Go.ChangeAt Go.RowKit Go.Deep Fl

theorem addr_plainF {W : World} {a : Addr} {v : Value} (h : W.cell? (a.add 0) = some v) : a = ⟨a.block, a.off, none⟩ := by
  obtain ⟨b, o, s⟩ := a
  have hs : s = none := by simpa [Addr.add] using World.cell?_spot h
  rw [hs]
set_option maxRecDepth 100000 in
/-- The five cells of a frame. -/
theorem trod_frm {H : Type} {enc : TypeId × Value → H} {W : World} {base fuel : Nat} {spare : Nat → Bool} {held : Bool} {cs : List Value} {x : DataW H × List MemPlace} (h : DataW.trod enc Try.prog W base spare held fuel 25 cs = some x) :
    ∃ f : FrD, cs = frC [f] := by
  obtain ⟨xs, n, rfl, rfl, hlen, hxl, hf⟩ := DataW.trod_struct Try.underlying25 h
  rw [cellsFrm] at hlen
  match xs, hxl, cs, hlen with
  | [y0, y1, y2, y3, y4], _, [v0, v1, v2, v3, v4], _ =>
    have g0 := hf 0 _ rfl
    have g1 := hf 1 _ rfl
    have g2 := hf 2 _ rfl
    have g3 := hf 3 _ rfl
    have g4 := hf 4 _ rfl
    simp [cellsInt, cellsU64] at g0 g1 g2 g3 g4
    obtain ⟨a, e0, f0, w0⟩ := DataW.trod_int Try.underlying3 g0
    obtain ⟨b, e1, f1, w1⟩ := DataW.trod_int Try.underlying3 g1
    obtain ⟨s, e2, f2, w2⟩ := DataW.trod_int Try.underlying23 g2
    obtain ⟨c, e3, f3, w3⟩ := DataW.trod_int Try.underlying3 g3
    obtain ⟨g, e4, f4, w4⟩ := DataW.trod_int Try.underlying3 g4
    simp only [List.cons.injEq, and_true] at e0 e1 e2 e3 e4
    subst e0 e1 e2 e3 e4
    exact ⟨⟨a, b, s, c, g⟩, rfl⟩
set_option maxRecDepth 100000 in
/-- An argument of type []api.Frame. -/
theorem open_frames {H : Type} {enc : TypeId × Value → H} {W : World} {v : Value} {d : DataW H} {p : List MemPlace} {base : Nat}
    (hok : Value.okWide Try.prog W .any base 22 v) (h : DataW.Trod enc Try.prog W 0 (fun _ => true) true 22 v d p) (hw : ∀ n ∈ d.weights Try.prog 22, n ≤ reachBytes) :
    ∃ (A : Option Addr) (c : Nat) (l : List FrD), v = .slice A l.length c ∧ Holds W A (frC l) ∧ l.length ≤ c ∧ l.length ≤ 1000000000000000000 := by
  obtain ⟨a0, len0, cap0, rfl⟩ := okWide_slice Try.underlying22 hok
  obtain ⟨fuel, hf⟩ := h
  rcases open_slice Try.underlying22 hf with ⟨hcs, hx⟩ | ⟨a, len, cap, m, n, D, Pl, hcs, _, hl, hm, hmm, hx, hcell⟩
  · simp [Value.cells] at hcs
    obtain ⟨rfl, rfl, rfl⟩ := hcs
    exact ⟨none, 0, [], rfl, .inl rfl, by simp, by simp⟩
  · simp [Value.cells] at hcs
    obtain ⟨rfl, rfl, rfl⟩ := hcs
    simp only [if_true] at hmm
    subst hmm
    have hd : d = .slice ((List.range len0).map D) ((List.range (m - len0)).map fun j => D (len0 + j)) := congrArg Prod.fst hx
    have hb : Try.prog.bytesOf 25 = 40 := by kernel_rfl
    have h1 := hw ((len0 + (m - len0)) * 40) (by
      rw [hd]; simp [DataW.weights, Try.underlying22, hb])
    rw [cellsFrm] at hcell
    have each : ∀ i, i < len0 → ∃ b : FrD, ∀ j u, (frC [b])[j]? = some u → W.cell? (a.add (i * 5 + j)) = some u := fun i hi => by
      obtain ⟨cs', g1, g2⟩ := hcell i (by omega)
      obtain ⟨b, rfl⟩ := trod_frm g2
      obtain ⟨_, hlen, hc⟩ := World.cells?_some g1
      refine ⟨b, fun j u hj => ?_⟩
      have hj3 := (List.getElem?_eq_some_iff.1 hj).1
      have e := hc j hj3
      rw [add_add] at e
      rw [e, ← hj]
    haveI : Inhabited FrD := ⟨zeroF⟩
    obtain ⟨q, hq⟩ := choose_lt each
    have hlen : ((List.range len0).map q).length = len0 := by simp
    refine ⟨some a, m, (List.range len0).map q, by rw [hlen], ?_, by rw [hlen]; omega, by rw [hlen]; unfold reachBytes at h1; omega⟩
    by_cases h0 : len0 = 0
    · subst h0; exact .inl rfl
    · have hc0 := hq 0 (by omega) 0 _ rfl
      have hp := addr_plainF hc0
      have hblk := World.block_lt_of_cell? _ _ hc0
      have key : ∀ (l : List FrD) (j : Nat) u, (frC l)[j]? = some u → ∃ b, l[j / 5]? = some b ∧ (frC [b])[j % 5]? = some u := by
        intro l
        induction l with
        | nil => intro j u h; simp [frC] at h
        | cons b r ih =>
          intro j u h
          match j, h with
          | 0, h => exact ⟨b, rfl, h⟩
          | 1, h => exact ⟨b, rfl, h⟩
          | 2, h => exact ⟨b, rfl, h⟩
          | 3, h => exact ⟨b, rfl, h⟩
          | 4, h => exact ⟨b, rfl, h⟩
          | j + 5, h =>
            obtain ⟨b', g1, g2⟩ := ih j u (by simpa [frC] using h)
            refine ⟨b', ?_, ?_⟩
            · rw [show (j + 5) / 5 = j / 5 + 1 by omega]; simpa using g1
            · rw [show (j + 5) % 5 = j % 5 by omega]; exact g2
      rw [hp] at hblk
      refine .inr ⟨a.block, a.off, congrArg some hp, by simpa [Addr.add] using hblk, fun j hj => ?_⟩
      obtain ⟨b, g1, g2⟩ := key _ j _ (List.getElem?_eq_getElem hj)
      have hi : j / 5 < len0 := by have := (List.getElem?_eq_some_iff.1 g1).1; simpa using this
      have e := hq (j / 5) hi (j % 5) _ (by
        have : b = q (j / 5) := by simpa [hi] using g1.symm
        rw [← this]; exact g2)
      rw [show j / 5 * 5 + j % 5 = j by omega, hp, add_addrF] at e
      exact e
end Go.Proofs.Ytckknakpmaagnaa
