/- Contract of fields.Lines: it returns the lines of a text that have fields, or the number of the first line with an error, and the error. -/
import Derived.Test.YtngapogkhpnieaaDoorFdScan
import Derived.Test.YtngapogkhpnieaaDoorFdLinesSpec
namespace Go.Proofs.YtngapogkhpnieaaDoor
open Go.RowKit Fl
attribute [local go_sem] bget

/-- The slice v holds the strings ss. -/
def StrsAt (w : World) (v : Value) (ss : List (List UInt8)) : Prop := ∃ A c, v = .slice A ss.length c ∧ Holds w A (ss.map S)
theorem StrsAt.keep {w w' : World} {v : Value} {ss : List (List UInt8)} (h : StrsAt w v ss) (hb : Below w.heap.size w w') : StrsAt w' v ss := by
  obtain ⟨A, c, hv, hh⟩ := h
  exact ⟨A, c, hv, hh.keep hb⟩
theorem own_slice {w : World} {base : Nat} {e : TypeId} {size n : Nat} {v : Value} {xs : List Value} (h : w.ownsRow base e size v n xs) : ∃ A c, v = .slice A n c := by
  obtain ⟨_, h2⟩ := h
  rcases h2 with ⟨rfl, rfl⟩ | ⟨g, cap, cur, rfl, _⟩
  · exact ⟨_, _, rfl⟩
  · exact ⟨_, _, rfl⟩
/-- The cells of lines: a number and a slice for each. -/
def lineCells : List (Nat × List (List UInt8)) → List Value → List Value
  | l :: ls, fv :: fvs => .int .i64 l.1 :: fv :: lineCells ls fvs
  | _, _ => []
theorem lineCells_snoc : ∀ (ls : List (Nat × List (List UInt8))) (fvs : List Value) (l : Nat × List (List UInt8)) (fv : Value), fvs.length = ls.length → lineCells (ls ++ [l]) (fvs ++ [fv]) = lineCells ls fvs ++ [.int .i64 l.1, fv]
  | [], [], _, _, _ => rfl
  | [], _ :: _, _, _, h => by simp at h
  | _ :: _, [], _, _, h => by simp at h
  | a :: ls, b :: fvs, l, fv, h => by
    simp only [List.cons_append, lineCells]
    rw [lineCells_snoc ls fvs l fv (by simpa using h)]
theorem lineCells_length : ∀ (ls : List (Nat × List (List UInt8))) (fvs : List Value), fvs.length = ls.length → (lineCells ls fvs).length = ls.length * 2
  | [], [], _ => rfl
  | [], _ :: _, h => by simp at h
  | _ :: _, [], h => by simp at h
  | a :: ls, b :: fvs, h => by
    simp only [lineCells, List.length_cons]
    rw [lineCells_length ls fvs (by simpa using h)]; omega
/-- The slice v, a row of the call's own, holds the lines ls. -/
def LinesOwn (w : World) (base : Nat) (v : Value) (ls : List (Nat × List (List UInt8))) : Prop :=
  ∃ fvs : List Value, fvs.length = ls.length ∧ w.ownsRow base 50 2 v ls.length (lineCells ls fvs) ∧ ∀ (i : Nat) (fv : Value) (l : Nat × List (List UInt8)), fvs[i]? = some fv → ls[i]? = some l → w.ownsRow base 9 1 fv l.2.length (l.2.map S)
theorem strs_of_own {w : World} {base : Nat} {fv : Value} {ss : List (List UInt8)} (h : w.ownsRow base 9 1 fv ss.length (ss.map S)) : StrsAt w fv ss := by
  obtain ⟨A, c, rfl⟩ := own_slice h
  exact ⟨A, c, rfl, ownsRow_holds h⟩
/-- The slice v holds the lines ls. -/
def LinesAt (w : World) (v : Value) (ls : List (Nat × List (List UInt8))) : Prop :=
  ∃ A c fvs, v = .slice A ls.length c ∧ fvs.length = ls.length ∧ Holds w A (lineCells ls fvs) ∧ ∀ (i : Nat) (fv : Value) (l : Nat × List (List UInt8)), fvs[i]? = some fv → ls[i]? = some l → StrsAt w fv l.2
theorem LinesOwn.at_ {w : World} {base : Nat} {v : Value} {ls : List (Nat × List (List UInt8))} (h : LinesOwn w base v ls) : LinesAt w v ls := by
  obtain ⟨fvs, hl, hown, hf⟩ := h
  obtain ⟨A, c, rfl⟩ := own_slice hown
  exact ⟨A, c, fvs, rfl, hl, ownsRow_holds hown, fun i fv l h1 h2 => strs_of_own (hf i fv l h1 h2)⟩
theorem LinesOwn.keep {w w' : World} {base : Nat} {v : Value} {ls : List (Nat × List (List UInt8))} (h : LinesOwn w base v ls) (hb : Below w.heap.size w w') : LinesOwn w' base v ls := by
  obtain ⟨fvs, hl, hown, hf⟩ := h
  exact ⟨fvs, hl, ownsRow_below hown hb, fun i fv l h1 h2 => ownsRow_below (hf i fv l h1 h2) hb⟩
theorem LinesAt.keep {w w' : World} {v : Value} {ls : List (Nat × List (List UInt8))} (h : LinesAt w v ls) (hb : Below w.heap.size w w') : LinesAt w' v ls := by
  obtain ⟨A, c, fvs, hv, hl, hh, hf⟩ := h
  exact ⟨A, c, fvs, hv, hl, hh.keep hb, fun i fv l h1 h2 => (hf i fv l h1 h2).keep hb⟩
def LinesPost (w : World) (R : Except (Nat × Nat) (List (Nat × List (List UInt8)))) (e : Ending) (w' : World) : Prop :=
  Below w.heap.size w w' ∧ match R with
    | .ok ls => ∃ v, e = .returned (.tuple #[v, .int .i64 0, .int .i64 0]) ∧ LinesAt w' v ls
    | .error (n, k) => e = .returned (.tuple #[.slice none 0 0, .int .i64 n, .int .i64 k])

theorem scanA_err : ∀ (l cur : List UInt8) (acc : List (List UInt8)) (e : Nat), scanA cur acc l = .error e → e = 2 ∨ e = 3
  | [], _, _, _, h => by cases h
  | c :: r, cur, acc, e, h => by
    unfold scanA at h
    split at h
    · cases h
    · split at h
      · exact scanA_err r _ _ e h
      · split at h
        · split at h
          · injection h with h; omega
          · exact scanA_err r _ _ e h
        · injection h with h; omega
theorem scanA_count : ∀ (l cur : List UInt8) (acc fs : List (List UInt8)), scanA cur acc l = .ok fs → fs.length ≤ acc.length + 1 + l.length
  | [], cur, acc, fs, h => by
    injection h with h; subst h; unfold flush; split <;> simp
  | c :: r, cur, acc, fs, h => by
    have hf : ∀ a : List (List UInt8), flush cur a = a ∨ flush cur a = a ++ [cur] := fun a => by unfold flush; split <;> simp
    unfold scanA at h
    split at h
    · injection h with h; subst h
      rcases hf acc with e | e <;> rw [e] <;> simp; omega
    · split at h
      · have := scanA_count r _ _ fs h
        rcases hf acc with e | e <;> rw [e] at this <;> simp at this ⊢ <;> omega
      · split at h
        · split at h
          · cases h
          · have := scanA_count r _ _ fs h
            simp at this ⊢; omega
        · cases h
theorem scan_err (p : List UInt8) (k : Nat) (w : World) (hs : p.length ≤ 6000) (h : scanA [] [] p = .error k) : Calls Tryd.prog 25 #[.string ⟨p.toArray⟩] w fun e w' => e = .returned (.tuple #[.slice none 0 0, .int .i64 k]) ∧ Below w.heap.size w w' :=
  (scan_c p w hs).mono fun e w' hp => by
    unfold ScanPost at hp; rw [h] at hp; exact ⟨hp.2, hp.1⟩
theorem scan_ok (p : List UInt8) (fs : List (List UInt8)) (w : World) (hs : p.length ≤ 6000) (h : scanA [] [] p = .ok fs) : Calls Tryd.prog 25 #[.string ⟨p.toArray⟩] w fun e w' => ∃ A c, e = .returned (.tuple #[.slice A fs.length c, .int .i64 0]) ∧ Below w.heap.size w w' ∧ w'.ownsRow w.heap.size 9 1 (.slice A fs.length c) fs.length (fs.map S) :=
  (scan_c p w hs).mono fun e w' hp => by
    unfold ScanPost at hp; rw [h] at hp
    obtain ⟨hb, v, he, hown⟩ := hp
    obtain ⟨A, c, rfl⟩ := own_slice hown
    exact ⟨A, c, he, hb, hown⟩
theorem LinesOwn.snoc {w w2 w3 : World} {base n : Nat} {v v' : Value} {ls : List (Nat × List (List UInt8))} {fvs : List Value} {A : Option Addr} {c num : Nat} {fs : List (List UInt8)} {cs : Array Value} {t : TypeId}
    (hl : fvs.length = ls.length) (hown : w2.ownsRow base 50 2 v ls.length (lineCells ls fvs)) (hf : ∀ (i : Nat) (fv : Value) (l : Nat × List (List UInt8)), fvs[i]? = some fv → ls[i]? = some l → w.ownsRow base 9 1 fv l.2.length (l.2.map S))
    (hb : Below w.heap.size w w2) (hn : w2.ownsRow n 9 1 (.slice A fs.length c) fs.length (fs.map S)) (hbn : base ≤ n)
    (hg : (w2.alloc (.cells cs t)).grownBy w3 v.ownBlock) (h3 : w3.ownsRow base 50 2 v' (ls.length + 1) (lineCells ls fvs ++ [.int .i64 num, .slice A fs.length c])) :
    LinesOwn w3 base v' (ls ++ [(num, fs)]) := by
  refine ⟨fvs ++ [.slice A fs.length c], by simp [hl], by rw [lineCells_snoc ls fvs _ _ hl]; simpa using h3, fun i fv l h1 h2 => ?_⟩
  have keep : ∀ {b2 : Nat} {fv : Value} {ss : List (List UInt8)}, w2.ownsRow b2 9 1 fv ss.length (ss.map S) → w3.ownsRow b2 9 1 fv ss.length (ss.map S) := fun h =>
    ownsRow_apart (h.alloc _) (hown.alloc _) (by decide) hg
  rcases Nat.lt_or_ge i ls.length with hi | hi
  · rw [List.getElem?_append_left (by omega)] at h1 h2
    exact keep (ownsRow_below (hf i fv l h1 h2) hb)
  · rw [List.getElem?_append_right (by omega)] at h1 h2
    have hi0 : i - ls.length = 0 := by
      rcases Nat.eq_zero_or_pos (i - ls.length) with h | h
      · exact h
      · rw [List.getElem?_eq_none (by simp; omega)] at h2; cases h2
    rw [hl, hi0] at h1
    rw [hi0] at h2
    simp at h1 h2
    subst h1 h2
    exact ownsRow_base (keep hn) hbn
theorem split_c (l : List UInt8) (m : Int) (w : World) (hs : l.length < 4294967281) (hm : w.cell? ⟨0, 0, none⟩ = some (.int .i64 m)) :
    Calls Tryd.prog 24 #[.string ⟨l.toArray⟩, .string ⟨#[10]⟩] w fun e w' => ∃ b, e = .returned (.slice (some ⟨b, 0, none⟩) (splitNL [] l).length (splitNL [] l).length) ∧ Below w.heap.size w w' ∧ b < w'.heap.size ∧ ∀ j (h : j < (splitNL [] l).length), w'.cell? ⟨b, j, none⟩ = some (S (splitNL [] l)[j]) :=
  (Tryd.strings_Split ⟨l.toArray⟩ ⟨#[10]⟩ m w hs hm (by decide)).mono fun e w' ⟨he, hw⟩ => by
    refine ⟨w.heap.size, by rw [he, count_nl], by rw [hw]; exact (Below.refl _ _).alloc (Nat.le_refl _) _, by rw [hw]; simp, fun j hj => ?_⟩
    rw [hw, splitB_nl]
    rw [cell_of_row _ w.heap.size j _ _ (0, 0) (heap_alloc_new w _)]
    simp [List.getElem?_eq_getElem hj]

theorem Tryd.infoLine : (Tryd.prog.info? 50).map (fun i => (i.zero, i.size, i.bytes)) = some (some (.agg #[.int .i64 0, .slice none 0 0]), 2, 32) := by kernel_rfl

set_option maxRecDepth 100000 in
set_option maxHeartbeats 4000000 in
theorem lines_c (l : List UInt8) (m : Int) (w : World) (hm : w.cell? ⟨0, 0, none⟩ = some (.int .i64 m)) (hs : l.length ≤ maxLen) : Calls Tryd.prog 11 #[.string ⟨l.toArray⟩] w (LinesPost w (linesT l)) := by
  unfold maxLen at hs
  by_cases hbig : 6000 < l.length
  · have HR := Lib.hid (show linesT l = .error (0, 1) by unfold linesT; rw [if_pos hbig])
    go_enter Tryd.func11, Tryd.ntmps11
    go_wp2
    go_ret3
    exact ⟨Below.refl _ _, by rw [HR.out]; rfl⟩
  · have HR := Lib.hid (show linesT l = linesA 1 [] ((splitNL [] l).drop 0) by unfold linesT; rw [if_neg hbig]; rfl)
    have hpl := splitNL_length_le l []
    have hpp : ∀ p ∈ splitNL [] l, p.length ≤ 6000 := fun p hp => by have := splitNL_piece l [] p hp; simp at this; omega
    have C := Lib.hid (split_c l m w (by omega) hm)
    clear hm
    have HPP := Lib.hid hpp
    clear hpp
    have HN := Lib.hid (count_nl l)
    generalize hps : splitNL [] l = ps at *
    clear hps
    go_enter Tryd.func11, Tryd.ntmps11
    go_wp2_with (go_at_call 24; refine C.out.mono ?_; rintro e w1 ⟨b, rfl, hb1, hb, hc⟩; have HC := Lib.hid hc; clear hc)
    go_loopw [5, 16] (fun v i wr => ∃ (k : Nat) (ls : List (Nat × List (List UInt8))), i = .int .i64 k ∧ k ≤ ps.length ∧ ls.length ≤ k ∧ Hid (LinesOwn wr w1.heap.size v ls) ∧ Below w.heap.size w wr ∧ Below w1.heap.size w1 wr ∧ Hid (linesT l = linesA (k + 1) ls (ps.drop k))) (fun _ i _ => ps.length - (intOf i).toNat)
    case atStart => exact ⟨0, [], rfl, Nat.zero_le _, by simp, Lib.hid ⟨[], rfl, ⟨by simp [lineCells], .inl ⟨rfl, rfl⟩⟩, by simp⟩, hb1, Below.refl _ _, HR⟩
    case round =>
      obtain ⟨k, ls, rfl, hk, hls, HO, hbw, hbw1, HS⟩ := hrel
      by_cases hlt : k < ps.length
      · have hcell : wr.cell? ⟨b, k, none⟩ = some (S ps[k]) := (hbw1.cell (p := ⟨b, k, none⟩) hb).trans (HC.out k hlt)
        have hp6 := HPP.out ps[k] (List.getElem_mem hlt)
        rcases hR : scanA [] [] ps[k] with er | fs
        · have he := scanA_err _ _ _ _ hR
          have HE := Lib.hid (HS.out.trans (linesA_bad hlt hR))
          have CS := Lib.hid (scan_err ps[k] er wr hp6 hR)
          clear hR
          generalize ps[k] = p at *
          have hne : ((er : Int) != 0) = true := by rw [bne_iff_ne]; omega
          clear he
          go_wp2_with (go_at_call 25; refine CS.out.mono ?_; rintro e w2 ⟨rfl, hb2⟩)
          go_ret3
          exact ⟨hbw.trans (hb2.mono hbw.size), by rw [HE.out]; rfl⟩
        · have hfl := scanA_count _ _ _ _ hR
          have CS := Lib.hid (scan_ok ps[k] fs wr hp6 hR)
          by_cases hf : fs = []
          · have HE := Lib.hid (HS.out.trans (linesA_none hlt (hf ▸ hR)))
            clear hR
            generalize ps[k] = p at *
            subst hf
            go_wp2_with (go_at_call 25; refine CS.out.mono ?_; rintro e w2 ⟨A, c, rfl, hb2, hh⟩; clear hh)
            go_roundw
            case rel => exact ⟨k + 1, ls, by go_num, by omega, by omega, Lib.hid (HO.out.keep hb2), hbw.trans (hb2.mono hbw.size), hbw1.trans (hb2.mono hbw1.size), HE⟩
            case measure => simp [intOf]; omega
          · have HE := Lib.hid (HS.out.trans (linesA_some hlt hR hf))
            have hpos : 0 < fs.length := List.length_pos_iff.2 hf
            clear hR hf
            generalize ps[k] = p at *
            go_wp2_with fail
            refine CS.out.mono ?_
            rintro e w2 ⟨A, c, rfl, hb2, hh⟩
            have HH := Lib.hid hh
            clear hh
            obtain ⟨fvs, hfl2, hown, hfv⟩ := HO.out
            have own1 := ownsRow_below hown hb2
            have base1 := own_base own1
            have HF := Lib.hid hfv
            have HL := Lib.hid hfl2
            clear hown hfv hfl2
            obtain ⟨i0, hi, hz0, hz1, hz2⟩ := info_parts Tryd.infoLine
            go_wp2_with (at_builtin; refine wpList_append_own _ rfl _ _ 26 rfl w1.heap.size 50 i0 (.agg #[.int .i64 0, .slice none 0 0]) 2 32 Tryd.underlying26 hi hz0 hz1 hz2 rfl (by decide) _ _ _ rfl (own1.alloc _) ⟨w2.heap.size, 0, none⟩ 1 1 [.int .i64 ((k : Int) + 1), .slice A fs.length c] rfl rfl ?c1 ?c2 ?c3 ?c4 ?c5 ?_)
            case c1 =>
              intro j u hu
              rcases j with _ | _ | j
              · simp at hu; subst hu; simp [go_sem]
              · simp at hu; subst hu; simp [go_sem]
              · simp at hu
            case c2 => intro u hu; simp at hu; rcases hu with rfl | rfl <;> rfl
            case c3 => unfold maxLen; omega
            case c4 => omega
            case c5 => have := hbw1.size; have := hb2.size; simp; omega
            intro v' w3 own3 hg3 _
            have hbW1 : Below w1.heap.size w1 w3 := ((hbw1.trans (hb2.mono hbw1.size)).alloc (Nat.le_trans hbw1.size hb2.size) _).grown hg3 (by have := hbw1.size; have := hb2.size; simp; omega) base1
            have hbW : Below w.heap.size w w3 := below_later hb1 hbW1
            have HO2 : Hid (LinesOwn w3 w1.heap.size v' (ls ++ [(k + 1, fs)])) := Lib.hid (LinesOwn.snoc HL.out own1 HF.out hb2 HH.out hbw1.size hg3 (by simpa using own3))
            have hls2 : (ls ++ [(k + 1, fs)]).length ≤ k + 1 := by simp; omega
            clear hg3 own3 own1 base1 hi hz0 hz1 hz2 hb2
            go_wp2
            go_roundw
            case rel => exact ⟨k + 1, ls ++ [(k + 1, fs)], by go_num, by omega, hls2, HO2, hbW, hbW1, HE⟩
            case measure => simp [intOf]; omega
      · have HE := Lib.hid (HS.out.trans (linesA_end (by omega)))
        have HA := Lib.hid HO.out.at_
        go_wp2
        go_ret3
        exact ⟨hbw, by rw [HE.out]; exact ⟨_, rfl, HA.out⟩⟩
end Go.Proofs.YtngapogkhpnieaaDoor
