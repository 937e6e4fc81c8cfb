/- Contract of the statements' lines: it makes well-formed lines of numbers. -/
import Derived.Test.YtpglhidhghhmoaaDoorFdMake
import Derived.Test.YtpglhidhghhmoaaDoorFdSameL
import Derived.Test.YtpglhidhghhmoaaDoorFdBackSpec
import Derived.Test.YtpglhidhghhmoaaDoorFdValid
namespace Go.Proofs.YtpglhidhghhmoaaDoor
open Go.RowKit Fl
attribute [local go_sem] bget

/-- Below block U, but for block g, the world is as it was. -/
structure Kept (g U : Nat) (w w' : World) : Prop where
  os : w'.os = w.os
  tape : w'.tape = w.tape
  output : w'.output = w.output
  size : w.heap.size ≤ w'.heap.size
  block : ∀ k, k < U → k ≠ g → w'.heap[k]? = w.heap[k]?
theorem Kept.refl (g U : Nat) (w : World) : Kept g U w w := ⟨rfl, rfl, rfl, Nat.le_refl _, fun _ _ _ => rfl⟩
theorem Kept.trans {g U : Nat} {a b c : World} (h : Kept g U a b) (k : Kept g U b c) : Kept g U a c :=
  ⟨k.os.trans h.os, k.tape.trans h.tape, k.output.trans h.output, Nat.le_trans h.size k.size, fun i hi hg => (k.block i hi hg).trans (h.block i hi hg)⟩
theorem Kept.mono {g U U' : Nat} {a b : World} (h : Kept g U a b) (hU : U' ≤ U) : Kept g U' a b := ⟨h.os, h.tape, h.output, h.size, fun k hk hg => h.block k (by omega) hg⟩
theorem Kept.of_below {g U : Nat} {a b : World} (h : Below U a b) : Kept g U a b := ⟨h.os, h.tape, h.output, h.size, fun k hk _ => h.block k hk⟩
theorem Kept.of_grown {g U : Nat} {a b : World} {row : Option Nat} (hg : a.grownBy b row) (hU : U ≤ a.heap.size) (hr : ∀ k, row = some k → k = g ∨ U ≤ k) : Kept g U a b :=
  ⟨hg.os, hg.tape, hg.output, hg.size, fun k hk hne => hg.block k (by omega) (fun e => by rcases hr k e.symm with h | h <;> omega)⟩
theorem Kept.below {g U B : Nat} {a b : World} (h : Kept g U a b) (hB : B ≤ U) (hg : B ≤ g) : Below B a b := ⟨h.os, h.tape, h.output, h.size, fun k hk => h.block k (by omega) (by omega)⟩
theorem ownsRow_keptG {g U base : Nat} {w w' : World} {e : TypeId} {size n : Nat} {v : Value} {xs : List Value} (h : w.ownsRow base e size v n xs) (hk : Kept g U w w') (hU : w.heap.size ≤ U) (hg : g < base) : w'.ownsRow base e size v n xs := by
  obtain ⟨h1, hr⟩ := h
  refine ⟨h1, ?_⟩
  rcases hr with hr | ⟨b, cap, cur, hv, hgb, hh, hrest⟩
  · exact .inl hr
  · exact .inr ⟨b, cap, cur, hv, hgb, (hk.block b (by have := block_lt hh; omega) (by omega)).trans hh, hrest⟩
theorem LinesOwn.keptG {g U base : Nat} {w w' : World} {v : Value} {ls : List LineD} (h : LinesOwn w base v ls) (hk : Kept g U w w') (hU : w.heap.size ≤ U) (hg : g < base) : LinesOwn w' base v ls := by
  obtain ⟨fvs, hl, hown, hf⟩ := h
  exact ⟨fvs, hl, ownsRow_keptG hown hk hU hg, fun i fv l h1 h2 => ownsRow_keptG (hf i fv l h1 h2) hk hU hg⟩
theorem own_ne_block {w : World} {base X : Nat} {e t : TypeId} {size n : Nat} {v : Value} {xs : List Value} {cs : Array Value} {fz : Nat × Nat} (h : w.ownsRow base e size v n xs) (hX : w.heap[X]? = some (.cells cs t fz)) (ht : e ≠ t) : v.ownBlock ≠ some X := by
  obtain ⟨_, hr⟩ := h
  rcases hr with ⟨rfl, _⟩ | ⟨g, cap, cur, rfl, _, hh, _⟩
  · simp [Value.ownBlock]
  · intro e1
    simp [Value.ownBlock] at e1
    subst e1
    rw [hh] at hX
    injection hX with hX
    injection hX with _ h2
    exact ht h2
theorem ownsRow_grownB {w w' : World} {base X : Nat} {e t : TypeId} {size n : Nat} {v : Value} {xs : List Value} {cs : Array Value} {fz : Nat × Nat} (h : w.ownsRow base e size v n xs) (hg : w.grownBy w' (some X)) (hX : w.heap[X]? = some (.cells cs t fz)) (ht : e ≠ t) : w'.ownsRow base e size v n xs := by
  have hne := own_ne_block h hX ht
  obtain ⟨h1, hr⟩ := h
  refine ⟨h1, ?_⟩
  rcases hr with hr | ⟨g, cap, cur, rfl, hgb, hh, hrest⟩
  · exact .inl hr
  · exact .inr ⟨g, cap, cur, rfl, hgb, (hg.block g (block_lt hh) (fun e1 => hne (by simpa [Value.ownBlock] using e1))).trans hh, hrest⟩
theorem grown_set (w : World) (X i : Nat) (v : Value) : w.grownBy (w.setCell ⟨X, i, none⟩ v) (some X) :=
  ⟨rfl, rfl, rfl, by simp [World.setCell], fun k _ hne => Below.heap_setCell w ⟨X, i, none⟩ v k (fun e => hne (by rw [e]))⟩
theorem set_block {w : World} {X : Nat} {a b v : Value} {t : TypeId} (h : w.heap[X]? = some (.cells #[a, b] t (0, 0))) : (w.setCell ⟨X, 1, none⟩ v).heap[X]? = some (.cells #[a, v] t (0, 0)) := by
  simp [World.setCell, Array.getElem?_modify]
  exact ⟨_, h, by simp⟩
/-- Lines whose numbers go from a to b by at most three, each with one to four fields. -/
def madeTo (a : Nat) : List LineD → Nat → Prop
  | [], b => a = b
  | x :: r, b => a < x.1 ∧ x.1 ≤ a + 3 ∧ 0 < x.2.length ∧ x.2.length ≤ 4 ∧ x.2.all fieldOk = true ∧ madeTo x.1 r b
theorem madeTo_snoc : ∀ (ls : List LineD) (a b : Nat) (x : LineD), madeTo a ls b → b < x.1 → x.1 ≤ b + 3 → 0 < x.2.length → x.2.length ≤ 4 → x.2.all fieldOk = true → madeTo a (ls ++ [x]) x.1
  | [], a, b, x, h, h1, h2, h3, h4, h5 => by
    subst h
    exact ⟨h1, h2, h3, h4, h5, rfl⟩
  | y :: r, a, b, x, ⟨g1, g2, g3, g4, g5, g6⟩, h1, h2, h3, h4, h5 => ⟨g1, g2, g3, g4, g5, madeTo_snoc r y.1 b x g6 h1 h2 h3 h4 h5⟩
theorem madeTo_formed : ∀ (ls : List LineD) (a b : Nat), madeTo a ls b → formed a (ls.map toI) = true
  | [], _, _, _ => rfl
  | x :: r, a, b, ⟨g1, _, g3, _, g5, g6⟩ => by
    simp only [List.map_cons, formed, toI, Bool.and_eq_true, decide_eq_true_eq]
    exact ⟨⟨⟨by omega, List.length_pos_iff.1 g3⟩, g5⟩, madeTo_formed r x.1 b g6⟩
theorem madeTo_join : ∀ (ls : List LineD) (a b : Nat) (acc : List UInt8), madeTo a ls b → a + 3 * ls.length ≤ 6000 → acc.length + 60 * ls.length ≤ 6000 → ∃ t, joinA a acc (ls.map toI) = .ok t ∧ t.length ≤ 6000
  | [], a, b, acc, _, _, h2 => ⟨acc, rfl, by simpa using h2⟩
  | x :: r, a, b, acc, ⟨g1, g2, g3, g4, g5, g6⟩, h1, h2 => by
    have hj := join_length_le _ g5
    have hr : (Lib.repeatL [10] ((x.1 : Int) - (a : Int) - 1).toNat).length ≤ 3 := by rw [Lib.repeatL_length]; simp; omega
    simp only [List.length_cons] at h1 h2
    have hlen : (acc ++ Lib.repeatL [10] ((x.1 : Int) - (a : Int) - 1).toNat ++ Lib.join x.2 [32] ++ [10]).length ≤ acc.length + 60 := by
      simp only [List.length_append, List.length_cons, List.length_nil]; omega
    simp only [List.map_cons, joinA, toI]
    rw [if_neg (by omega), if_neg (by omega)]
    exact madeTo_join r x.1 b _ g6 (by omega) (by omega)
theorem madeTo_T {ls : List LineD} {b : Nat} (h : madeTo 0 ls b) (hl : ls.length ≤ 5) : ∃ t, joinT (ls.map toI) = .ok t ∧ t.length ≤ 6000 := by
  unfold joinT
  rw [show formed 0 (ls.map toI) = true from madeTo_formed ls 0 b h]
  exact madeTo_join ls 0 b [] h (by omega) (by simp; omega)
abbrev lSigns : List UInt8 := [97, 90, 48, 57, 45, 95, 33, 126]
theorem lSigns_field : ∀ q (h : q < lSigns.length), fieldByte lSigns[q] = true := by decide

theorem own_slice_cap {w : World} {base : Nat} {e : TypeId} {size n : Nat} {v : Value} {xs : List Value} (h : w.ownsRow base e size v n xs) : ∃ A c, v = .slice A n c ∧ n ≤ c := by
  obtain ⟨_, h2⟩ := h
  rcases h2 with ⟨rfl, rfl⟩ | ⟨g, cap, cur, rfl, _, _, hc, _⟩
  · exact ⟨_, _, rfl, Nat.le_refl _⟩
  · exact ⟨_, _, rfl, hc⟩
theorem LinesOwn.raw {w : World} {base : Nat} {A : Option Addr} {c n : Nat} {ls : List LineD} (h : LinesOwn w base (.slice A n c) ls) : RawAt w A (ls.map toI) := by
  obtain ⟨fvs, hl, hown, hf⟩ := h
  obtain ⟨A1, c1, hv⟩ := own_slice hown
  injection hv with hA hn hc
  subst hA hn hc
  have hh := ownsRow_holds hown
  rcases Nat.eq_zero_or_pos ls.length with h0 | h0
  · left
    rw [List.eq_nil_of_length_eq_zero h0]; rfl
  · obtain ⟨b, o, hA, hlt, _⟩ := hh.at_ (by rw [lineCells_length ls fvs hl]; omega)
    refine .inr ⟨b, o, hA, hlt, fun k hk => ?_⟩
    have hk' : k < ls.length := by simpa using hk
    obtain ⟨fv, g1, g2, g3⟩ := lineCells_at ls fvs k hl hk'
    have hfo := hf k fv ls[k] g1 (List.getElem?_eq_getElem hk')
    obtain ⟨A', c', rfl, hcap⟩ := own_slice_cap hfo
    have e : (ls.map toI)[k] = toI ls[k] := by simp
    rw [e]
    exact ⟨A', c', hh.get hA g2, by rw [Nat.add_assoc]; exact hh.get hA g3, hcap, ownsRow_holds hfo⟩
def MadePost (w : World) (e : Ending) (w' : World) : Prop := ∃ (ls : List LineD) (A' : Option Addr) (c' b : Nat), e = .returned (.slice A' ls.length c') ∧ LinesAt w' (.slice A' ls.length c') ls ∧ RawAt w' A' (ls.map toI) ∧ ls.length ≤ 5 ∧ madeTo 0 ls b ∧ Below w.heap.size w w'

end Go.Proofs.YtpglhidhghhmoaaDoor
