/- Contract of the statements' lines: it makes well-formed lines of numbers. -/
import Derived.Test.YtngapogkhpnieaaDoorFdMake
import Derived.Test.YtngapogkhpnieaaDoorFdSameL
import Derived.Test.YtngapogkhpnieaaDoorFdBackSpec
import Derived.Test.YtngapogkhpnieaaDoorFdValid
namespace Go.Proofs.YtngapogkhpnieaaDoor
open Go.RowKit Fl
attribute [local go_sem] bget

/-- Below block U, but for block g, the world is as it was. -/
structure Kept (g U : Nat) (w w' : World) : Prop where
  os : w'.os = w.os
  tape : w'.tape = w.tape
  output : w'.output = w.output
  size : w.heap.size ≤ w'.heap.size
  block : ∀ k, k < U → k ≠ g → w'.heap[k]? = w.heap[k]?
theorem Kept.refl (g U : Nat) (w : World) : Kept g U w w := ⟨rfl, rfl, rfl, Nat.le_refl _, fun _ _ _ => rfl⟩
theorem Kept.trans {g U : Nat} {a b c : World} (h : Kept g U a b) (k : Kept g U b c) : Kept g U a c :=
  ⟨k.os.trans h.os, k.tape.trans h.tape, k.output.trans h.output, Nat.le_trans h.size k.size, fun i hi hg => (k.block i hi hg).trans (h.block i hi hg)⟩
theorem Kept.mono {g U U' : Nat} {a b : World} (h : Kept g U a b) (hU : U' ≤ U) : Kept g U' a b := ⟨h.os, h.tape, h.output, h.size, fun k hk hg => h.block k (by omega) hg⟩
theorem Kept.of_below {g U : Nat} {a b : World} (h : Below U a b) : Kept g U a b := ⟨h.os, h.tape, h.output, h.size, fun k hk _ => h.block k hk⟩
theorem Kept.of_grown {g U : Nat} {a b : World} {row : Option Nat} (hg : a.grownBy b row) (hU : U ≤ a.heap.size) (hr : ∀ k, row = some k → k = g ∨ U ≤ k) : Kept g U a b :=
  ⟨hg.os, hg.tape, hg.output, hg.size, fun k hk hne => hg.block k (by omega) (fun e => by rcases hr k e.symm with h | h <;> omega)⟩
theorem Kept.below {g U B : Nat} {a b : World} (h : Kept g U a b) (hB : B ≤ U) (hg : B ≤ g) : Below B a b := ⟨h.os, h.tape, h.output, h.size, fun k hk => h.block k (by omega) (by omega)⟩
theorem ownsRow_keptG {g U base : Nat} {w w' : World} {e : TypeId} {size n : Nat} {v : Value} {xs : List Value} (h : w.ownsRow base e size v n xs) (hk : Kept g U w w') (hU : w.heap.size ≤ U) (hg : g < base) : w'.ownsRow base e size v n xs := by
  obtain ⟨h1, hr⟩ := h
  refine ⟨h1, ?_⟩
  rcases hr with hr | ⟨b, cap, cur, hv, hgb, hh, hrest⟩
  · exact .inl hr
  · exact .inr ⟨b, cap, cur, hv, hgb, (hk.block b (by have := block_lt hh; omega) (by omega)).trans hh, hrest⟩
theorem LinesOwn.keptG {g U base : Nat} {w w' : World} {v : Value} {ls : List LineD} (h : LinesOwn w base v ls) (hk : Kept g U w w') (hU : w.heap.size ≤ U) (hg : g < base) : LinesOwn w' base v ls := by
  obtain ⟨fvs, hl, hown, hf⟩ := h
  exact ⟨fvs, hl, ownsRow_keptG hown hk hU hg, fun i fv l h1 h2 => ownsRow_keptG (hf i fv l h1 h2) hk hU hg⟩
theorem own_ne_block {w : World} {base X : Nat} {e t : TypeId} {size n : Nat} {v : Value} {xs : List Value} {cs : Array Value} {fz : Nat × Nat} (h : w.ownsRow base e size v n xs) (hX : w.heap[X]? = some (.cells cs t fz)) (ht : e ≠ t) : v.ownBlock ≠ some X := by
  obtain ⟨_, hr⟩ := h
  rcases hr with ⟨rfl, _⟩ | ⟨g, cap, cur, rfl, _, hh, _⟩
  · simp [Value.ownBlock]
  · intro e1
    simp [Value.ownBlock] at e1
    subst e1
    rw [hh] at hX
    injection hX with hX
    injection hX with _ h2
    exact ht h2
theorem ownsRow_grownB {w w' : World} {base X : Nat} {e t : TypeId} {size n : Nat} {v : Value} {xs : List Value} {cs : Array Value} {fz : Nat × Nat} (h : w.ownsRow base e size v n xs) (hg : w.grownBy w' (some X)) (hX : w.heap[X]? = some (.cells cs t fz)) (ht : e ≠ t) : w'.ownsRow base e size v n xs := by
  have hne := own_ne_block h hX ht
  obtain ⟨h1, hr⟩ := h
  refine ⟨h1, ?_⟩
  rcases hr with hr | ⟨g, cap, cur, rfl, hgb, hh, hrest⟩
  · exact .inl hr
  · exact .inr ⟨g, cap, cur, rfl, hgb, (hg.block g (block_lt hh) (fun e1 => hne (by simpa [Value.ownBlock] using e1))).trans hh, hrest⟩
theorem grown_set (w : World) (X i : Nat) (v : Value) : w.grownBy (w.setCell ⟨X, i, none⟩ v) (some X) :=
  ⟨rfl, rfl, rfl, by simp [World.setCell], fun k _ hne => Below.heap_setCell w ⟨X, i, none⟩ v k (fun e => hne (by rw [e]))⟩
theorem set_block {w : World} {X : Nat} {a b v : Value} {t : TypeId} (h : w.heap[X]? = some (.cells #[a, b] t (0, 0))) : (w.setCell ⟨X, 1, none⟩ v).heap[X]? = some (.cells #[a, v] t (0, 0)) := by
  simp [World.setCell, Array.getElem?_modify]
  exact ⟨_, h, by simp⟩
/-- Lines whose numbers go from a to b by at most three, each with one to four fields. -/
def madeTo (a : Nat) : List LineD → Nat → Prop
  | [], b => a = b
  | x :: r, b => a < x.1 ∧ x.1 ≤ a + 3 ∧ 0 < x.2.length ∧ x.2.length ≤ 4 ∧ x.2.all fieldOk = true ∧ madeTo x.1 r b
theorem madeTo_snoc : ∀ (ls : List LineD) (a b : Nat) (x : LineD), madeTo a ls b → b < x.1 → x.1 ≤ b + 3 → 0 < x.2.length → x.2.length ≤ 4 → x.2.all fieldOk = true → madeTo a (ls ++ [x]) x.1
  | [], a, b, x, h, h1, h2, h3, h4, h5 => by
    subst h
    exact ⟨h1, h2, h3, h4, h5, rfl⟩
  | y :: r, a, b, x, ⟨g1, g2, g3, g4, g5, g6⟩, h1, h2, h3, h4, h5 => ⟨g1, g2, g3, g4, g5, madeTo_snoc r y.1 b x g6 h1 h2 h3 h4 h5⟩
theorem madeTo_formed : ∀ (ls : List LineD) (a b : Nat), madeTo a ls b → formed a (ls.map toI) = true
  | [], _, _, _ => rfl
  | x :: r, a, b, ⟨g1, _, g3, _, g5, g6⟩ => by
    simp only [List.map_cons, formed, toI, Bool.and_eq_true, decide_eq_true_eq]
    exact ⟨⟨⟨by omega, List.length_pos_iff.1 g3⟩, g5⟩, madeTo_formed r x.1 b g6⟩
theorem madeTo_join : ∀ (ls : List LineD) (a b : Nat) (acc : List UInt8), madeTo a ls b → a + 3 * ls.length ≤ 6000 → acc.length + 60 * ls.length ≤ 6000 → ∃ t, joinA a acc (ls.map toI) = .ok t ∧ t.length ≤ 6000
  | [], a, b, acc, _, _, h2 => ⟨acc, rfl, by simpa using h2⟩
  | x :: r, a, b, acc, ⟨g1, g2, g3, g4, g5, g6⟩, h1, h2 => by
    have hj := join_length_le _ g5
    have hr : (Lib.repeatL [10] ((x.1 : Int) - (a : Int) - 1).toNat).length ≤ 3 := by rw [Lib.repeatL_length]; simp; omega
    simp only [List.length_cons] at h1 h2
    have hlen : (acc ++ Lib.repeatL [10] ((x.1 : Int) - (a : Int) - 1).toNat ++ Lib.join x.2 [32] ++ [10]).length ≤ acc.length + 60 := by
      simp only [List.length_append, List.length_cons, List.length_nil]; omega
    simp only [List.map_cons, joinA, toI]
    rw [if_neg (by omega), if_neg (by omega)]
    exact madeTo_join r x.1 b _ g6 (by omega) (by omega)
theorem madeTo_T {ls : List LineD} {b : Nat} (h : madeTo 0 ls b) (hl : ls.length ≤ 5) : ∃ t, joinT (ls.map toI) = .ok t ∧ t.length ≤ 6000 := by
  unfold joinT
  rw [show formed 0 (ls.map toI) = true from madeTo_formed ls 0 b h]
  exact madeTo_join ls 0 b [] h (by omega) (by simp; omega)
abbrev lSigns : List UInt8 := [97, 90, 48, 57, 45, 95, 33, 126]
theorem lSigns_field : ∀ q (h : q < lSigns.length), fieldByte lSigns[q] = true := by decide

theorem own_slice_cap {w : World} {base : Nat} {e : TypeId} {size n : Nat} {v : Value} {xs : List Value} (h : w.ownsRow base e size v n xs) : ∃ A c, v = .slice A n c ∧ n ≤ c := by
  obtain ⟨_, h2⟩ := h
  rcases h2 with ⟨rfl, rfl⟩ | ⟨g, cap, cur, rfl, _, _, hc, _⟩
  · exact ⟨_, _, rfl, Nat.le_refl _⟩
  · exact ⟨_, _, rfl, hc⟩
theorem LinesOwn.raw {w : World} {base : Nat} {A : Option Addr} {c n : Nat} {ls : List LineD} (h : LinesOwn w base (.slice A n c) ls) : RawAt w A (ls.map toI) := by
  obtain ⟨fvs, hl, hown, hf⟩ := h
  obtain ⟨A1, c1, hv⟩ := own_slice hown
  injection hv with hA hn hc
  subst hA hn hc
  have hh := ownsRow_holds hown
  rcases Nat.eq_zero_or_pos ls.length with h0 | h0
  · left
    rw [List.eq_nil_of_length_eq_zero h0]; rfl
  · obtain ⟨b, o, hA, hlt, _⟩ := hh.at_ (by rw [lineCells_length ls fvs hl]; omega)
    refine .inr ⟨b, o, hA, hlt, fun k hk => ?_⟩
    have hk' : k < ls.length := by simpa using hk
    obtain ⟨fv, g1, g2, g3⟩ := lineCells_at ls fvs k hl hk'
    have hfo := hf k fv ls[k] g1 (List.getElem?_eq_getElem hk')
    obtain ⟨A', c', rfl, hcap⟩ := own_slice_cap hfo
    have e : (ls.map toI)[k] = toI ls[k] := by simp
    rw [e]
    exact ⟨A', c', hh.get hA g2, by rw [Nat.add_assoc]; exact hh.get hA g3, hcap, ownsRow_holds hfo⟩
def MadePost (w : World) (e : Ending) (w' : World) : Prop := ∃ (ls : List LineD) (A' : Option Addr) (c' b : Nat), e = .returned (.slice A' ls.length c') ∧ LinesAt w' (.slice A' ls.length c') ls ∧ RawAt w' A' (ls.map toI) ∧ ls.length ≤ 5 ∧ madeTo 0 ls b ∧ Below w.heap.size w w'

set_option maxRecDepth 100000 in
set_option maxHeartbeats 8000000 in
theorem linesMade_c (A : Option Addr) (c : Nat) (zs : List Int) (w : World) (hz : IntsAt w w.heap.size A zs) (hzl : zs.length ≤ maxLen) :
    Calls Tryd.prog 20 #[.slice A zs.length c] w (MadePost w) := by
  go_enter Tryd.func20, Tryd.ntmps20
  go_wp2_with fail
  have ht := tape_new (c := c) hz (Nat.le_refl _) (Below.refl _ w) hzl
  have hb : Below w.heap.size w (w.alloc (.cells #[.slice A zs.length c, .int .i64 0] 34)) := (Below.refl _ _).alloc (Nat.le_refl _) _
  have hsz : w.heap.size < (w.alloc (.cells #[.slice A zs.length c, .int .i64 0] 34)).heap.size := by simp
  generalize w.alloc (.cells #[.slice A zs.length c, .int .i64 0] 34) = w0 at *
  refine (next_c w.heap.size w.heap.size _ 6 w0 ht (by omega) (by omega) (by omega)).mono ?_
  rintro e w1 ⟨q, hq, rfl, ht1, hg1⟩
  have hb1 : Below w.heap.size w w1 := hb.grown hg1 hb.size (fun k hk => by injection hk with hk; omega)
  have hsz1 : w.heap.size < w1.heap.size := by have := hg1.size; omega
  clear hz hzl ht hb hsz hg1
  go_wp2
  go_loopw [4, 5, 6] (fun v nm i wr => ∃ (r n : Nat) (ls : List LineD), i = .int .i64 r ∧ nm = .int .i64 n ∧ r + ls.length ≤ 5 ∧ n ≤ 3 * ls.length ∧ Hid (madeTo 0 ls n) ∧ Hid (LinesOwn wr (w.heap.size + 1) v ls) ∧ Hid (TapeOk wr w.heap.size w.heap.size (1 + 100 * ls.length)) ∧ Below w.heap.size w wr ∧ w.heap.size < wr.heap.size) (fun _ _ i _ => (intOf i).toNat)
  case atStart => exact ⟨q, 0, [], rfl, rfl, by simp; omega, by simp, Lib.hid rfl, Lib.hid ⟨[], rfl, ⟨by simp [lineCells], .inl ⟨rfl, rfl⟩⟩, by simp⟩, Lib.hid (ht1.more (by simp)), hb1, hsz1⟩
  case round =>
    clear hb1 hsz1 ht1 hq
    obtain ⟨r, n, ls, rfl, rfl, hr, hn, HM, HO, HT, hb, hsz⟩ := hrel
    by_cases hr0 : 0 < r
    · go_wp2_with fail
      refine (next_c w.heap.size w.heap.size _ 3 wr HT.out (by omega) (by omega) (by omega)).mono ?_
      rintro e w2 ⟨q2, hq2, rfl, ht2, hg2⟩
      have hk2 : Kept w.heap.size wr.heap.size wr w2 := Kept.of_grown hg2 (Nat.le_refl _) (fun k hk => by injection hk with hk; omega)
      clear hg2 HT
      go_wp2_with fail
      obtain ⟨nn, hnn⟩ : ∃ nn : Nat, (nn : Int) = (n : Int) + (1 + (q2 : Int)) := ⟨n + (1 + q2), by omega⟩
      rw [← hnn]
      have hnn1 : n < nn := by omega
      have hnn2 : nn ≤ n + 3 := by omega
      clear hnn hq2
      have hX0 : (w2.alloc (.cells #[.int .i64 nn, .slice none 0 0] 50)).heap[w2.heap.size]? = some (.cells #[.int .i64 nn, .slice none 0 0] 50 (0, 0)) := heap_alloc_new w2 _
      have hUX : wr.heap.size ≤ w2.heap.size := hk2.size
      have hk3 : Kept w.heap.size wr.heap.size wr (w2.alloc (.cells #[.int .i64 nn, .slice none 0 0] 50)) := hk2.trans (Kept.of_below ((Below.refl _ _).alloc hUX _))
      have ht3 := ht2.keep (w' := w2.alloc (.cells #[.int .i64 nn, .slice none 0 0] 50)) ((Below.refl _ _).alloc (Nat.le_refl _) _)
      have hsz3 : w2.heap.size < (w2.alloc (.cells #[.int .i64 nn, .slice none 0 0] 50)).heap.size := by simp
      clear hk2 ht2
      generalize w2.alloc (.cells #[.int .i64 nn, .slice none 0 0] 50) = w3 at *
      generalize w2.heap.size = X at *
      refine (next_c w.heap.size w.heap.size _ 4 w3 ht3 (by omega) (by omega) (by omega)).mono ?_
      rintro e w4 ⟨j0, hj0, rfl, ht4, hg4⟩
      have hX4 : w4.heap[X]? = some (.cells #[.int .i64 nn, .slice none 0 0] 50 (0, 0)) := (hg4.block X hsz3 (fun e => by injection e with e; omega)).trans hX0
      have hk4 : Kept w.heap.size wr.heap.size wr w4 := hk3.trans (Kept.of_grown hg4 (by have := hk3.size; omega) (fun k hk => by injection hk with hk; omega))
      have hsz4 : X < w4.heap.size := by have := hg4.size; omega
      clear ht3 hg4 hk3 hX0 hsz3
      go_wp2
      obtain ⟨wo, rfl⟩ : ∃ wo : World, wo = wr := ⟨_, rfl⟩
      go_loopw [8] (fun i wm => ∃ (j : Nat) (fs : List (List UInt8)) (fv : Value), i = .int .i64 j ∧ j + fs.length ≤ 4 ∧ 1 ≤ j + fs.length ∧ Hid (fs.all fieldOk = true) ∧ Hid (wm.heap[X]? = some (.cells #[.int .i64 nn, fv] 50 (0, 0))) ∧ Hid (wm.ownsRow wo.heap.size 9 1 fv fs.length (fs.map S)) ∧ Hid (TapeOk wm w.heap.size w.heap.size (3 + 100 * ls.length + 13 * fs.length)) ∧ Kept w.heap.size wo.heap.size wo wm ∧ X < wm.heap.size) (fun i _ => (intOf i).toNat)
      case atStart => exact ⟨1 + j0, [], .slice none 0 0, by go_num, by simp; omega, by simp, Lib.hid rfl, Lib.hid hX4, Lib.hid ⟨rfl, .inl ⟨rfl, rfl⟩⟩, Lib.hid (ht4.more (by simp; omega)), hk4, hsz4⟩
      case round =>
        clear hX4 ht4 hk4 hsz4 hj0
        obtain ⟨j, fs, fv, rfl, hj4, hj1, HFS, HX, HFV, HT, hk, hXs⟩ := hrel
        by_cases hj0 : 0 < j
        · go_wp2_with fail
          refine (next_c w.heap.size w.heap.size _ 12 wr HT.out (by omega) (by omega) (by omega)).mono ?_
          rintro e w5 ⟨i0, hi0, rfl, ht5, hg5⟩
          have hk5 : Kept w.heap.size wr.heap.size wr w5 := Kept.of_grown hg5 (Nat.le_refl _) (fun k hk => by injection hk with hk; omega)
          clear hg5 HT
          go_wp2
          obtain ⟨wp, rfl⟩ : ∃ wp : World, wp = wr := ⟨_, rfl⟩
          go_loopw [9, 10] (fun v i wi => ∃ (i' : Nat) (bs : List UInt8), i = .int .i64 i' ∧ i' + bs.length ≤ 12 ∧ 1 ≤ i' + bs.length ∧ Hid (bs.all fieldByte = true) ∧ Hid (wi.ownsRow wp.heap.size 5 1 v bs.length (bs.map Bv)) ∧ Hid (TapeOk wi w.heap.size w.heap.size (4 + 100 * ls.length + 13 * fs.length + bs.length)) ∧ Kept w.heap.size wp.heap.size wp wi) (fun _ i _ => (intOf i).toNat)
          case atStart => exact ⟨1 + i0, [], by go_num, by simp; omega, by simp, Lib.hid rfl, Lib.hid ⟨rfl, .inl ⟨rfl, rfl⟩⟩, Lib.hid (ht5.more (by simp; omega)), hk5⟩
          case round =>
            clear hk5 ht5 hi0
            obtain ⟨i, bs, rfl, hi12, hi1, HBF, HB, HT, hki⟩ := hrel
            have hszi := hki.size
            by_cases hi0 : 0 < i
            · go_wp2_with fail
              refine (next_c w.heap.size w.heap.size _ 8 wr HT.out (by omega) (by omega) (by omega)).mono ?_
              rintro e w6 ⟨q8, hq8, rfl, ht6, hg6⟩
              have own6 := ownsRow_but HB.out hg6 (by omega)
              have hk6 : Kept w.heap.size wp.heap.size wp w6 := hki.trans (Kept.of_grown hg6 (by omega) (fun k hk => by injection hk with hk; omega))
              have hsz6 : wr.heap.size ≤ w6.heap.size := hg6.size
              clear HB HT hg6 hki
              have base6 := own_base own6
              have hq8' : q8 < lSigns.length := by show q8 < 8; omega
              have HBF6 : Hid ((bs ++ [lSigns[q8]]).all fieldByte = true) := Lib.hid (by rw [List.all_append, HBF.out]; simp [lSigns_field q8 hq8'])
              have HT6 := Lib.hid ht6
              clear ht6
              obtain ⟨ti, hti, hz0, hz1, hz2⟩ := info_parts Tryd.infoByte
              go_wp2_with (at_builtin; refine wpList_append_own _ rfl _ _ 35 rfl wp.heap.size 5 ti (.int .u8 0) 1 1 Tryd.underlying35 hti hz0 hz1 hz2 rfl (by decide) _ _ _ rfl (own6.alloc _) ⟨w6.heap.size, 0, none⟩ 1 1 [Bv lSigns[q8]] rfl rfl ?c1 ?c2 ?c3 ?c4 ?c5 ?_)
              case c1 =>
                intro j u hu
                rcases j with _ | j
                · simp at hu; subst hu; simp [go_sem]
                · simp at hu
              case c2 => intro u hu; simp at hu; subst hu; rfl
              case c3 => unfold maxLen; omega
              case c4 => omega
              case c5 => simp; omega
              intro v' w7 own7 hg7 _
              have hk7 : Kept w.heap.size wp.heap.size wp w7 := (hk6.trans (Kept.of_below ((Below.refl _ _).alloc (by omega) _))).trans (Kept.of_grown hg7 (by simp; omega) (fun k hk => .inr (base6 k hk)))
              have HT7 : Hid (TapeOk w7 w.heap.size w.heap.size (4 + 100 * ls.length + 13 * fs.length + (bs ++ [lSigns[q8]]).length)) := Lib.hid (((HT6.out.keep ((Below.refl _ _).alloc (Nat.le_refl _) _)).grown hg7 (fun e => by have := base6 _ e; omega) (fun k hk => by have := base6 k hk; omega)).more (by simp; omega))
              have HB7 : Hid (w7.ownsRow wp.heap.size 5 1 v' (bs ++ [lSigns[q8]]).length ((bs ++ [lSigns[q8]]).map Bv)) := Lib.hid (by simpa using own7)
              have hl7 : i - 1 + (bs ++ [lSigns[q8]]).length ≤ 12 := by simp; omega
              have hl7b : 1 ≤ i - 1 + (bs ++ [lSigns[q8]]).length := by simp; omega
              clear hg7 own7 own6 base6 hti hz0 hz1 hz2 HT6 hk6
              go_wp2
              go_roundw
              case rel => exact ⟨i - 1, _, by go_num, hl7, hl7b, HBF6, HB7, HT7, hk7⟩
              case measure => simp [intOf]; omega
            · have hlen : 1 ≤ bs.length ∧ bs.length ≤ 12 := by omega
              have hfok := fieldOk_good hlen HBF.out
              have hXi : wr.heap[X]? = some (.cells #[.int .i64 nn, fv] 50 (0, 0)) := (hki.block X (by omega) (by omega)).trans HX.out
              have own1 := ownsRow_keptG HFV.out hki (Nat.le_refl _) (by omega)
              have hcv := conv_own HB.out
              have hc1 : wr.cell? ⟨X, 1, none⟩ = some fv := by rw [cell_of_row wr X 1 _ _ (0, 0) hXi]; rfl
              have base1 := own_base own1
              have hkW : Kept w.heap.size wo.heap.size wo wr := hk.trans (hki.mono (by have := hk.size; omega))
              have hXr := block_lt hXi
              have HXI := Lib.hid hXi
              have HT1 := Lib.hid HT.out
              clear HX HFV HB HBF HT hXi hki hk
              obtain ⟨ti, hti, hz0, hz1, hz2⟩ := info_parts Tryd.infoString
              go_wp2_with (at_builtin; refine wpList_append_own _ rfl _ _ 25 rfl wo.heap.size 9 ti (.string ByteArray.empty) 1 16 Tryd.underlying25 hti hz0 hz1 hz2 rfl (by decide) _ _ _ rfl (own1.alloc _) ⟨wr.heap.size, 0, none⟩ 1 1 [S bs] rfl rfl ?c1 ?c2 ?c3 ?c4 ?c5 ?_)
              case c1 =>
                intro j u hu
                rcases j with _ | j
                · simp at hu; subst hu; simp [go_sem]
                · simp at hu
              case c2 => intro u hu; simp at hu; subst hu; rfl
              case c3 => unfold maxLen; omega
              case c4 => omega
              case c5 => have := hkW.size; simp; omega
              intro v' w7 own7 hg7 _
              obtain ⟨A7, c7, rfl⟩ := own_slice own7
              have hX7 : w7.heap[X]? = some (.cells #[.int .i64 nn, fv] 50 (0, 0)) :=
                (hg7.block X (by simp; omega) (fun e => own_ne_block own1 HXI.out (by decide) e.symm)).trans ((Below.heap_alloc wr _ X hXr).trans HXI.out)
              have hc7 : w7.cell? ⟨X, 1, none⟩ = some fv := by rw [cell_of_row w7 X 1 _ _ (0, 0) hX7]; rfl
              have hf7 : w7.frozen? ⟨X, 1, none⟩ = false := by simp [World.frozen?, hX7]
              have hk7 : Kept w.heap.size wo.heap.size wo w7 := (hkW.trans (Kept.of_below ((Below.refl _ _).alloc hkW.size _))).trans (Kept.of_grown hg7 (by have := hkW.size; simp; omega) (fun k hk => .inr (base1 k hk)))
              have ht7 := (HT1.out.keep ((Below.refl _ _).alloc (Nat.le_refl _) _)).grown hg7 (fun e => by have := base1 _ e; omega) (fun k hk => by have := base1 k hk; omega)
              have gs := grown_set w7 X 1 (.slice A7 (fs.length + 1) c7)
              have HX8 := Lib.hid (set_block (v := .slice A7 (fs.length + 1) c7) hX7)
              have HFV8 : Hid ((w7.setCell ⟨X, 1, none⟩ (.slice A7 (fs.length + 1) c7)).ownsRow wo.heap.size 9 1 (.slice A7 (fs.length + 1) c7) (fs ++ [bs]).length ((fs ++ [bs]).map S)) := Lib.hid (ownsRow_grownB (by simpa using own7) gs hX7 (by decide))
              have HT8 : Hid (TapeOk (w7.setCell ⟨X, 1, none⟩ (.slice A7 (fs.length + 1) c7)) w.heap.size w.heap.size (3 + 100 * ls.length + 13 * (fs ++ [bs]).length)) := Lib.hid ((ht7.grown gs (fun e => by injection e with e; omega) (fun k hk => by injection hk with hk; omega)).more (by simp; omega))
              have hk8 : Kept w.heap.size wo.heap.size wo (w7.setCell ⟨X, 1, none⟩ (.slice A7 (fs.length + 1) c7)) := hk7.trans (Kept.of_grown gs hk7.size (fun k hk => by injection hk with hk; omega))
              have hX8 : X < (w7.setCell ⟨X, 1, none⟩ (.slice A7 (fs.length + 1) c7)).heap.size := block_lt HX8.out
              have HFS8 : Hid ((fs ++ [bs]).all fieldOk = true) := Lib.hid (by rw [List.all_append, HFS.out]; simp [hfok])
              have hl8 : j - 1 + (fs ++ [bs]).length ≤ 4 := by simp; omega
              have hl8b : 1 ≤ j - 1 + (fs ++ [bs]).length := by simp; omega
              clear hg7 own7 own1 base1 hti hz0 hz1 hz2 ht7 gs hX7 hk7 hkW hcv HXI HT1 hfok hXr hc1
              go_wp2
              go_roundw
              case rel => exact ⟨j - 1, _, _, by go_num, hl8, hl8b, HFS8, HX8, HFV8, HT8, hk8, hX8⟩
              case measure => simp [intOf]; omega
        · have hjz : j = 0 := by omega
          subst hjz
          obtain ⟨A9, c9, rfl⟩ := own_slice HFV.out
          have hXi := HX.out
          have hc0 : wr.cell? ⟨X, 0, none⟩ = some (.int .i64 nn) := by rw [cell_of_row wr X 0 _ _ (0, 0) hXi]; rfl
          have hc1 : wr.cell? ⟨X, 1, none⟩ = some (.slice A9 fs.length c9) := by rw [cell_of_row wr X 1 _ _ (0, 0) hXi]; rfl
          have HO9 := HO.out.keptG hk (Nat.le_refl _) (by omega)
          obtain ⟨fvs, hfl2, hown, hfv⟩ := HO9
          have base1 := own_base hown
          have HF := Lib.hid hfv
          have HLN := Lib.hid hfl2
          have hszk := hk.size
          have hb9 : Below w.heap.size w wr := hb.trans (hk.below hb.size (Nat.le_refl _))
          clear hfv hfl2 hXi
          obtain ⟨ti, hti, hz0, hz1, hz2⟩ := info_parts Tryd.infoLine
          go_wp2_with (at_builtin; refine wpList_append_own _ rfl _ _ 26 rfl (w.heap.size + 1) 50 ti (.agg #[.int .i64 0, .slice none 0 0]) 2 32 Tryd.underlying26 hti hz0 hz1 hz2 rfl (by decide) _ _ _ rfl (hown.alloc _) ⟨wr.heap.size, 0, none⟩ 1 1 [.int .i64 (nn : Int), .slice A9 fs.length c9] rfl rfl ?c1 ?c2 ?c3 ?c4 ?c5 ?_)
          case c1 =>
            intro j u hu
            rcases j with _ | _ | j
            · simp at hu; subst hu; simp [go_sem]
            · simp at hu; subst hu; simp [go_sem]
            · simp at hu
          case c2 => intro u hu; simp at hu; rcases hu with rfl | rfl <;> rfl
          case c3 => unfold maxLen; omega
          case c4 => omega
          case c5 => simp; omega
          intro v' w7 own7 hg7 _
          have hb7 : Below w.heap.size w w7 := (hb9.alloc hb9.size _).grown hg7 (by simp; omega) (fun k hk => by have := base1 k hk; omega)
          have HO7 : Hid (LinesOwn w7 (w.heap.size + 1) v' (ls ++ [(nn, fs)])) := Lib.hid (LinesOwn.snoc HLN.out hown HF.out (Below.refl _ _) HFV.out (by omega) hg7 (by simpa using own7))
          have HT7 : Hid (TapeOk w7 w.heap.size w.heap.size (1 + 100 * (ls ++ [(nn, fs)]).length)) := Lib.hid (((HT.out.keep ((Below.refl _ _).alloc (Nat.le_refl _) _)).grown hg7 (fun e => by have := base1 _ e; omega) (fun k hk => by have := base1 k hk; omega)).more (by simp; omega))
          have HM7 : Hid (madeTo 0 (ls ++ [(nn, fs)]) nn) := Lib.hid (madeTo_snoc ls 0 n (nn, fs) HM.out hnn1 hnn2 (by show 0 < fs.length; omega) (by show fs.length ≤ 4; omega) HFS.out)
          have hl7 : r - 1 + (ls ++ [(nn, fs)]).length ≤ 5 := by simp; omega
          have hn7 : nn ≤ 3 * (ls ++ [(nn, fs)]).length := by simp; omega
          have hsz7 : w.heap.size < w7.heap.size := by have := hg7.size; simp at this; omega
          clear hg7 own7 hown base1 hti hz0 hz1 hz2 HT HM HO
          go_wp2
          go_roundw
          case rel => exact ⟨r - 1, nn, _, by go_num, rfl, hl7, hn7, HM7, HO7, HT7, hb7, hsz7⟩
          case measure => simp [intOf]; omega
    · go_wp2_with fail
      go_ret
      obtain ⟨A', c', fvs, rfl, h1, h2, h3⟩ := HO.out.at_
      exact ⟨ls, A', c', n, rfl, ⟨A', c', fvs, rfl, h1, h2, h3⟩, HO.out.raw, by omega, HM.out, hb⟩
end Go.Proofs.YtngapogkhpnieaaDoor
