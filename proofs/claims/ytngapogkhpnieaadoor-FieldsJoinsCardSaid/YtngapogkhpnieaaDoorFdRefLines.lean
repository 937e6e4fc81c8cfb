/- Contract of the reference's Lines: it returns what fields.Lines returns. -/
import Derived.Test.YtngapogkhpnieaaDoorFdLines
import Derived.Test.YtngapogkhpnieaaDoorFdRefFields
namespace Go.Proofs.YtngapogkhpnieaaDoor
open Go.RowKit Fl
attribute [local go_sem] bget bext

theorem linesA_cons_err {n e : Nat} {ls : List (Nat × List (List UInt8))} {p : List UInt8} {ps : List (List UInt8)} (h : scanA [] [] p = .error e) : linesA n ls (p :: ps) = .error (n, e) := by
  rw [linesA, h]
theorem linesA_cons_none {n : Nat} {ls : List (Nat × List (List UInt8))} {p : List UInt8} {ps : List (List UInt8)} (h : scanA [] [] p = .ok []) : linesA n ls (p :: ps) = linesA (n + 1) ls ps := by
  rw [linesA, h]; rfl
theorem linesA_cons_some {n : Nat} {ls : List (Nat × List (List UInt8))} {p : List UInt8} {ps fs : List (List UInt8)} (h : scanA [] [] p = .ok fs) (hf : fs ≠ []) : linesA n ls (p :: ps) = linesA (n + 1) (ls ++ [(n, fs)]) ps := by
  rw [linesA, h]; simp only [if_neg hf]
theorem splitNL_step {l cur : List UInt8} {k : Nat} (h : k < l.length) (hc : l[k] ≠ 10) : splitNL cur (l.drop k) = splitNL (cur ++ [l[k]]) (l.drop (k + 1)) := by
  rw [List.drop_eq_getElem_cons h, splitNL, if_neg hc]
theorem splitNL_feed {l cur : List UInt8} {k : Nat} (h : k < l.length) (hc : l[k] = 10) : splitNL cur (l.drop k) = cur :: splitNL [] (l.drop (k + 1)) := by
  rw [List.drop_eq_getElem_cons h, splitNL, if_pos hc]
theorem ref_err (p : List UInt8) (k : Nat) (w : World) (hs : p.length ≤ 6000) (h : scanA [] [] p = .error k) : Calls Tryd.prog 26 #[.string ⟨p.toArray⟩] w fun e w' => e = .returned (.tuple #[.slice none 0 0, .int .i64 k]) ∧ Below w.heap.size w w' :=
  (refFields_c p w hs).mono fun e w' hp => by
    unfold ScanPost at hp; rw [h] at hp; exact ⟨hp.2, hp.1⟩
theorem ref_ok (p : List UInt8) (fs : List (List UInt8)) (w : World) (hs : p.length ≤ 6000) (h : scanA [] [] p = .ok fs) : Calls Tryd.prog 26 #[.string ⟨p.toArray⟩] w fun e w' => ∃ A c, e = .returned (.tuple #[.slice A fs.length c, .int .i64 0]) ∧ Below w.heap.size w w' ∧ w'.ownsRow w.heap.size 9 1 (.slice A fs.length c) fs.length (fs.map S) :=
  (refFields_c p w hs).mono fun e w' hp => by
    unfold ScanPost at hp; rw [h] at hp
    obtain ⟨hb, v, he, hown⟩ := hp
    obtain ⟨A, c, rfl⟩ := own_slice hown
    exact ⟨A, c, he, hb, hown⟩

set_option maxRecDepth 100000 in
set_option maxHeartbeats 4000000 in
theorem refLines_c (l : List UInt8) (w : World) (hs : l.length ≤ maxLen) : Calls Tryd.prog 12 #[.string ⟨l.toArray⟩] w (LinesPost w (linesT l)) := by
  unfold maxLen at hs
  by_cases hbig : 6000 < l.length
  · have HR := Lib.hid (show linesT l = .error (0, 1) by unfold linesT; rw [if_pos hbig])
    go_enter Tryd.func12, Tryd.ntmps12
    go_wp2
    go_ret3
    exact ⟨Below.refl _ _, by rw [HR.out]; rfl⟩
  · have HR := Lib.hid (show linesT l = linesA 1 [] (splitNL (seg l 0 0) (l.drop 0)) by unfold linesT; rw [if_neg hbig]; rfl)
    have hl6 : l.length ≤ 6000 := by omega
    clear hbig hs
    go_enter Tryd.func12, Tryd.ntmps12
    go_wp2
    go_loopw [5, 6, 7, 8] (fun v nm fr i wr => ∃ (k n f : Nat) (ls : List (Nat × List (List UInt8))), i = .int .i64 k ∧ nm = .int .i64 n ∧ fr = .int .i64 f ∧ k ≤ l.length + 1 ∧ n ≤ k + 1 ∧ f ≤ k ∧ ls.length ≤ k ∧ Hid (LinesOwn wr w.heap.size v ls) ∧ Below w.heap.size w wr ∧
      Hid ((k ≤ l.length ∧ linesT l = linesA n ls (splitNL (seg l f k) (l.drop k))) ∨ (l.length < k ∧ linesT l = .ok ls))) (fun _ _ _ i _ => l.length + 1 - (intOf i).toNat)
    case atStart => exact ⟨0, 1, 0, [], rfl, rfl, rfl, Nat.zero_le _, by omega, Nat.le_refl _, by simp, Lib.hid ⟨[], rfl, ⟨by simp [lineCells], .inl ⟨rfl, rfl⟩⟩, by simp⟩, Below.refl _ _, Lib.hid (.inl ⟨Nat.zero_le _, HR.out⟩)⟩
    case round =>
      obtain ⟨k, n, f, ls, rfl, rfl, rfl, hk, hnk, hfk, hls, HO, hb, HS⟩ := hrel
      by_cases hke : k ≤ l.length
      · have HS2 : Hid (linesT l = linesA n ls (splitNL (seg l f k) (l.drop k))) := Lib.hid (by rcases HS.out with h | h; exact h.2; omega)
        clear HS
        by_cases hgo : ∃ h : k < l.length, l[k] ≠ 10
        · obtain ⟨hlt, hc⟩ := hgo
          have e10 : ((l[k].toNat : Int) != 10) = true := by rw [bne_iff_ne]; intro e; exact hc (UInt8.toNat_inj.1 (by simpa using (show l[k].toNat = 10 by omega)))
          have HE := Lib.hid (HS2.out.trans (by rw [splitNL_step hlt hc, ← seg_snoc hlt hfk]))
          clear hc
          go_wp2
          go_roundw
          case rel => exact ⟨k + 1, n, f, ls, by go_num, rfl, rfl, by omega, by omega, by omega, by omega, HO, hb, Lib.hid (.inl ⟨by omega, HE.out⟩)⟩
          case measure => simp [intOf]; omega
        · have HP : Hid (∃ ps, linesT l = linesA n ls (seg l f k :: ps) ∧ ((k + 1 ≤ l.length ∧ ps = splitNL (seg l (k + 1) (k + 1)) (l.drop (k + 1))) ∨ (l.length < k + 1 ∧ ps = []))) := Lib.hid (by
            rcases Nat.lt_or_ge k l.length with h | h
            · have hc : l[k] = 10 := Decidable.byContradiction fun hne => hgo ⟨h, hne⟩
              exact ⟨_, by rw [HS2.out, splitNL_feed h hc], .inl ⟨h, by rw [seg_nil]⟩⟩
            · exact ⟨[], by rw [HS2.out, List.drop_of_length_le h]; rfl, .inr ⟨by omega, rfl⟩⟩)
          have hcond : k < l.length ∧ (∃ h : k < l.length, ((l[k].toNat : Int) != 10) = false) ∨ l.length ≤ k := by
            rcases Nat.lt_or_ge k l.length with h | h
            · have hc : l[k] = 10 := Decidable.byContradiction fun hne => hgo ⟨h, hne⟩
              exact .inl ⟨h, h, by rw [hc]; rfl⟩
            · exact .inr h
          clear hgo HS2
          have hp6 : (seg l f k).length ≤ 6000 := by rw [seg_length hke]; omega
          rcases hR : scanA [] [] (seg l f k) with er | fs
          · have he := scanA_err _ _ _ _ hR
            have HE : Hid (linesT l = .error (n, er)) := Lib.hid (by obtain ⟨ps, h1, _⟩ := HP.out; rw [h1, linesA_cons_err hR])
            have CS := Lib.hid (ref_err (seg l f k) er wr hp6 hR)
            clear hR HP
            have hne : ((er : Int) != 0) = true := by rw [bne_iff_ne]; omega
            clear he
            rcases hcond with ⟨hlt, _, hc⟩ | hge
            all_goals
              go_wp2_with (go_at_call 26; refine CS.out.mono ?_; rintro e w2 ⟨rfl, hb2⟩)
              go_ret3
              exact ⟨hb.trans (hb2.mono hb.size), by rw [HE.out]; rfl⟩
          · have hfl := scanA_count _ _ _ _ hR
            have CS := Lib.hid (ref_ok (seg l f k) fs wr hp6 hR)
            by_cases hf : fs = []
            · have HE : Hid ((k + 1 ≤ l.length ∧ linesT l = linesA (n + 1) ls (splitNL (seg l (k + 1) (k + 1)) (l.drop (k + 1)))) ∨ (l.length < k + 1 ∧ linesT l = .ok ls)) := Lib.hid (by
                obtain ⟨ps, h1, h2⟩ := HP.out
                rw [linesA_cons_none (hf ▸ hR)] at h1
                rcases h2 with ⟨h2, rfl⟩ | ⟨h2, rfl⟩
                · exact .inl ⟨h2, h1⟩
                · exact .inr ⟨h2, h1⟩)
              clear hR HP
              subst hf
              rcases hcond with ⟨hlt, _, hc⟩ | hge
              all_goals
                go_wp2_with (go_at_call 26; refine CS.out.mono ?_; rintro e w2 ⟨A, c, rfl, hb2, hh⟩; clear hh)
                go_roundw
                case rel => exact ⟨k + 1, n + 1, k + 1, ls, by go_num, by go_num, by go_num, by omega, by omega, Nat.le_refl _, by omega, Lib.hid (HO.out.keep hb2), hb.trans (hb2.mono hb.size), HE⟩
                case measure => simp [intOf]; omega
            · have HE : Hid ((k + 1 ≤ l.length ∧ linesT l = linesA (n + 1) (ls ++ [(n, fs)]) (splitNL (seg l (k + 1) (k + 1)) (l.drop (k + 1)))) ∨ (l.length < k + 1 ∧ linesT l = .ok (ls ++ [(n, fs)]))) := Lib.hid (by
                obtain ⟨ps, h1, h2⟩ := HP.out
                rw [linesA_cons_some hR hf] at h1
                rcases h2 with ⟨h2, rfl⟩ | ⟨h2, rfl⟩
                · exact .inl ⟨h2, h1⟩
                · exact .inr ⟨h2, h1⟩)
              have hpos : 0 < fs.length := List.length_pos_iff.2 hf
              clear hR HP hf
              rcases hcond with ⟨hlt, _, hc⟩ | hge
              all_goals
                go_wp2_with fail
                refine CS.out.mono ?_
                rintro e w2 ⟨A, c, rfl, hb2, hh⟩
                have HH := Lib.hid hh
                clear hh
                obtain ⟨fvs, hfl2, hown, hfv⟩ := HO.out
                have own1 := ownsRow_below hown hb2
                have base1 := own_base own1
                have HF := Lib.hid hfv
                have HL := Lib.hid hfl2
                clear hown hfv hfl2
                obtain ⟨i0, hi, hz0, hz1, hz2⟩ := info_parts Tryd.infoLine
                go_wp2_with (at_builtin; refine wpList_append_own _ rfl _ _ 26 rfl w.heap.size 50 i0 (.agg #[.int .i64 0, .slice none 0 0]) 2 32 Tryd.underlying26 hi hz0 hz1 hz2 rfl (by decide) _ _ _ rfl (own1.alloc _) ⟨w2.heap.size, 0, none⟩ 1 1 [.int .i64 (n : Int), .slice A fs.length c] rfl rfl ?c1 ?c2 ?c3 ?c4 ?c5 ?_)
                case c1 =>
                  intro j u hu
                  rcases j with _ | _ | j
                  · simp at hu; subst hu; simp [go_sem]
                  · simp at hu; subst hu; simp [go_sem]
                  · simp at hu
                case c2 => intro u hu; simp at hu; rcases hu with rfl | rfl <;> rfl
                case c3 => unfold maxLen; omega
                case c4 => omega
                case c5 => have := hb.size; have := hb2.size; simp; omega
                intro v' w3 own3 hg3 _
                have hbW : Below w.heap.size w w3 := ((hb.trans (hb2.mono hb.size)).alloc (Nat.le_trans hb.size hb2.size) _).grown hg3 (by have := hb.size; have := hb2.size; simp; omega) base1
                have HO2 : Hid (LinesOwn w3 w.heap.size v' (ls ++ [(n, fs)])) := Lib.hid (LinesOwn.snoc HL.out own1 HF.out hb2 HH.out hb.size hg3 (by simpa using own3))
                have hls2 : (ls ++ [(n, fs)]).length ≤ k + 1 := by simp; omega
                clear hg3 own3 own1 base1 hi hz0 hz1 hz2 hb2
                go_wp2
                go_roundw
                case rel => exact ⟨k + 1, n + 1, k + 1, ls ++ [(n, fs)], by go_num, by go_num, by go_num, by omega, by omega, Nat.le_refl _, hls2, HO2, hbW, HE⟩
                case measure => simp [intOf]; omega
      · have HE : Hid (linesT l = .ok ls) := Lib.hid (by rcases HS.out with h | h; omega; exact h.2)
        have HA := Lib.hid HO.out.at_
        clear HS
        go_wp2
        go_ret3
        exact ⟨hb, by rw [HE.out]; exact ⟨_, rfl, HA.out⟩⟩
end Go.Proofs.YtngapogkhpnieaaDoor
