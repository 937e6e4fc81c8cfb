/- LayoutFirst returns true: the error of the first wrong line is reported, whatever follows it. -/
import Derived.Test.YtpglhidhghhmoaaDoorLyAppend
import Derived.Test.YtpglhidhghhmoaaDoorLyKnown
namespace Go.Proofs.YtpglhidhghhmoaaDoor
open Go.RowKit Fl
attribute [local go_sem] bget

theorem parseA_append {e : Int × Nat} (M : List LineI) : ∀ (L : List LineI) (acc : List DeclD), parseA acc L = .error e → parseA acc (L ++ M) = .error e
  | [], acc, h => by cases h
  | x :: r, acc, h => by
    rw [List.cons_append, parseA]
    rw [parseA] at h
    split at h
    · exact parseA_append M r _ h
    · exact h
theorem parseA_errs : ∀ (L : List LineI) (acc : List DeclD) (n : Int) (k : Nat), parseA acc L = .error (n, k) → 4 ≤ k
  | [], _, _, _, h => by cases h
  | x :: r, acc, n, k, h => by
    rw [parseA] at h
    split at h
    · exact parseA_errs r _ n k h
    · rename_i he
      have := parse1_errs he
      injection h with h
      injection h with _ h
      omega
theorem lineCells_one {P : Value → Prop} : ∀ (ls : List LineD) (fvs : List Value), (∀ u ∈ fvs, P u) → (∀ z : Int, P (.int .i64 z)) → ∀ u ∈ lineCells ls fvs, P u
  | [], _, _, _, u, hu => by simp [lineCells] at hu
  | _ :: _, [], _, _, u, hu => by simp [lineCells] at hu
  | l :: ls, f :: fvs, hf, hz, u, hu => by
    simp only [lineCells, List.mem_cons] at hu
    rcases hu with rfl | rfl | hu
    · exact hz _
    · exact hf _ (by simp)
    · exact lineCells_one ls fvs (fun u hu => hf u (by simp [hu])) hz u hu
theorem toI_raw {w : World} {base : Nat} {A : Option Addr} {c n : Nat} {ls : List LineD} (h : LinesOwn w base (.slice A n c) ls) : RawAt w A (ls.map toI) ∧ n = ls.length := by
  refine ⟨h.raw, ?_⟩
  obtain ⟨fvs, hl, hown, _⟩ := h
  obtain ⟨A1, c1, hv⟩ := own_slice hown
  injection hv
theorem short_ok {ls : List LineD} {n : Nat} (h : ∀ x ∈ ls, shortF 10 x.2) (hl : ls.length ≤ n) : (∀ x ∈ ls.map toI, x.2.length ≤ 8796093021952) ∧ (∀ x ∈ ls.map toI, ∀ f ∈ x.2, f.length ≤ 9223372036854775000) := by
  have _ := hl
  refine ⟨fun x hx => ?_, fun x hx f hf => ?_⟩
  · obtain ⟨y, hy, rfl⟩ := List.mem_map.1 hx
    have := (h y hy).1
    show y.2.length ≤ _
    omega
  · obtain ⟨y, hy, rfl⟩ := List.mem_map.1 hx
    have := (h y hy).2 f hf
    omega
/-- Parse of lines of the call's own. -/
theorem parse_made {w : World} {base : Nat} {A : Option Addr} {c : Nat} {ls : List LineD} (hg : Shapes w) (h : LinesOwn w base (.slice A ls.length c) ls) (hl : ls.length ≤ 100) (hs : ∀ x ∈ ls, shortF 10 x.2) :
    Calls Tryd.prog 9 #[.slice A ls.length c] w (ParsePost w (parseT (ls.map toI))) := by
  obtain ⟨h1, h2⟩ := short_ok hs hl
  have h3 := parse_c A c (ls.map toI) w hg h.raw (by simp; omega) h1 h2
  simpa using h3
set_option maxRecDepth 100000 in
set_option maxHeartbeats 4000000 in
theorem layoutFirst_c (A1 : Option Addr) (c1 : Nat) (z1 : List Int) (A2 : Option Addr) (c2 : Nat) (z2 : List Int) (w : World) (hz1 : IntsAt w w.heap.size A1 z1) (hl1 : z1.length ≤ maxLen) (hz2 : IntsAt w w.heap.size A2 z2) (hl2 : z2.length ≤ maxLen) (hg : Shapes w) :
    Calls Tryd.prog 6 #[.slice A1 z1.length c1, .slice A2 z2.length c2] w fun e w' => e = .returned (.bool true) ∧ Below w.heap.size w w' := by
  have C := Lib.hid (known2_c w hg)
  have HG := Lib.hid hg
  have HZ1 := Lib.hid hz1
  have HL1 := Lib.hid hl1
  have HZ2 := Lib.hid hz2
  have HL2 := Lib.hid hl2
  obtain ⟨hm1, hs1⟩ := madeF_short z1
  obtain ⟨hm2, hs2⟩ := madeF_short z2
  have HS1 := Lib.hid hs1
  have HS2 := Lib.hid hs2
  clear hg hz1 hl1 hz2 hl2 hs1 hs2
  go_enter Tryd.func6, Tryd.ntmps6
  go_wp2_with fail
  refine C.out.mono ?_
  rintro e w1 ⟨rfl, hb1⟩
  go_wp2_with fail
  refine (lyLines_c A1 c1 z1 w1 ((HZ1.out.keep (Nat.le_refl _) hb1).more hb1.size) HL1.out).mono ?_
  rintro e w2 ⟨v, rfl, hO2, hb2⟩
  obtain ⟨A3, c3, rfl⟩ : ∃ A c, v = .slice A (madeF z1).length c := by obtain ⟨_, _, hown, _⟩ := hO2; exact own_slice hown
  have hb12 := below_later hb1 hb2
  have CP1 := Lib.hid (parse_made (HG.out.keep hb12) hO2 (by omega) HS1.out)
  clear hO2 hb1 hb2 C
  rcases hR : parseT ((madeF z1).map toI) with ⟨n, k⟩ | ds
  · have HR := Lib.hid hR
    have HK4 := Lib.hid (parseA_errs _ _ _ _ hR)
    rw [hR] at CP1
    clear hR
    go_wp2_with fail
    refine CP1.out.mono ?_
    rintro e w3 ⟨hb3, rfl⟩
    have hne : ((k : Int) == 0) = false := by have := HK4.out; rw [beq_eq_false_iff_ne]; omega
    have hb13 := below_later hb12 hb3
    clear CP1 hb3 hb12
    go_wp2_with fail
    refine (lyLines_c A1 c1 z1 w3 ((HZ1.out.keep (Nat.le_refl _) hb13).more hb13.size) HL1.out).mono ?_
    rintro e w4 ⟨v4, rfl, hO4, hb4⟩
    have hb14 := below_later hb13 hb4
    obtain ⟨f1, hl4, hown4, hf4⟩ := hO4
    obtain ⟨A4, c4, rfl, hcap4⟩ := own_slice_cap hown4
    have HO4 := Lib.hid hown4
    have HF4 := Lib.hid hf4
    have HL4 := Lib.hid hl4
    have hs4 : w.heap.size ≤ w3.heap.size := hb13.size
    have hs34 : w3.heap.size ≤ w4.heap.size := hb4.size
    clear hb4 hb13 hown4 hf4 hl4
    go_wp2_with fail
    refine (lyLines_c A2 c2 z2 w4 ((HZ2.out.keep (Nat.le_refl _) hb14).more hb14.size) HL2.out).mono ?_
    rintro e w5 ⟨v5, rfl, hO5, hb5⟩
    have hb15 := below_later hb14 hb5
    obtain ⟨f2, hl5, hown5, hf5⟩ := hO5
    have hO45 := ownsRow_below HO4.out hb5
    have HF45 := Lib.hid (fun i fv l h1 h2 => ownsRow_below (HF4.out i fv l h1 h2) hb5)
    have hs5 : w4.heap.size ≤ w5.heap.size := hb5.size
    rcases hown5 with ⟨hlen5, ⟨rfl, hn5⟩ | ⟨g5, cap5, cur5, rfl, hg5, hh5, hnc5, hcm5, hcs5, hx5⟩⟩
    · have HOW := Lib.hid hO45
      have hA : Hid (LinesOwn w5 w3.heap.size (.slice A4 (madeF z1).length c4) (madeF z1)) := Lib.hid ⟨f1, HL4.out, HOW.out, HF45.out⟩
      have CP2 := Lib.hid (parse_made (HG.out.keep hb15) hA.out (by omega) HS1.out)
      clear hO45 hlen5 hf5 hl5 hb5 HO4 HF4
      rw [HR.out] at CP2
      obtain ⟨ti, hti, hz0, hz1, hz2⟩ := info_parts Tryd.infoLine
      go_wp2_with (first | (at_builtin; refine wpList_append_none _ rfl _ _ 22 rfl 58 ti Tryd.underlying22 hti A4 (madeF z1).length c4 hcap4 rfl (by first | rfl | (simp [hn5]; rfl)) ?_) | fail)
      refine CP2.out.mono ?_
      rintro e w7 ⟨hb7, rfl⟩
      have HB7 := Lib.hid (below_later hb15 hb7)
      clear hb7 CP2
      go_wp2
      go_ret
      exact ⟨rfl, HB7.out⟩
    · have HOW := Lib.hid hO45
      have HL5 := Lib.hid hl5
      have HF5 := Lib.hid hf5
      have hO5 : w5.ownsRow w4.heap.size 58 2 (.slice (some ⟨g5, 0, none⟩) (madeF z2).length cap5) (madeF z2).length (lineCells (madeF z2) f2) := ⟨hlen5, .inr ⟨g5, cap5, cur5, rfl, hg5, hh5, hnc5, hcm5, hcs5, hx5⟩⟩
      have HC5 := Lib.hid (hO5.cells (g := g5) rfl)
      have HLC := Lib.hid (lineCells_length (madeF z2) f2 hl5)
      clear hO45 hlen5 hf5 hl5 hb5 HO4 HF4 hg5 hh5 hnc5 hcm5 hcs5 hx5 hO5
      obtain ⟨ti, hti, hz0, hz1, hz2⟩ := info_parts Tryd.infoLine
      go_wp2_with (at_builtin; refine wpList_append_own _ rfl _ _ 22 rfl w3.heap.size 58 ti (.agg #[.int .i64 0, .slice none 0 0]) 2 32 Tryd.underlying22 hti hz0 hz1 hz2 rfl (by decide) _ _ _ rfl HOW.out ⟨g5, 0, none⟩ (madeF z2).length cap5 (lineCells (madeF z2) f2) rfl HLC.out HC5.out ?c2 ?c3 ?c4 ?c5 ?_)
      case c2 => exact lineCells_one _ _ (fun u hu => by obtain ⟨i, hi, rfl⟩ := List.mem_iff_getElem.1 hu; obtain ⟨A, c, hA⟩ := own_slice (HF5.out i _ ((madeF z2)[i]'(by rw [← HL5.out]; exact hi)) (List.getElem?_eq_getElem hi) (List.getElem?_eq_getElem _)); rw [hA]; rfl) (fun _ => rfl)
      case c3 => unfold maxLen; omega
      case c4 => omega
      case c5 => omega
      intro v6 w6 own6 hg6 _
      have base4 := own_base HOW.out
      have hb16 : Below w.heap.size w w6 := hb15.grown hg6 (by omega) (fun k hk => by have := base4 k hk; omega)
      have hL6 := LinesOwn.append (Nat.le_trans hs34 (Nat.le_refl _)) HL4.out HOW.out HF45.out HL5.out HF5.out hg6 own6
      obtain ⟨A6, c6, rfl⟩ := own_slice own6
      have hlen6 : (madeF z1 ++ madeF z2).length = (madeF z1).length + (madeF z2).length := by simp
      rw [← hlen6] at hL6
      have CP2 := Lib.hid (parse_made (HG.out.keep hb16) hL6 (by rw [hlen6]; omega) (fun x hx => by rcases List.mem_append.1 hx with hx | hx; exact HS1.out x hx; exact HS2.out x hx))
      rw [hlen6] at CP2
      clear own6 hg6 hL6 base4 hlen6 hti hz0 hz1 hz2 HOW HL5 HF5 HC5 HLC
      rw [show parseT ((madeF z1 ++ madeF z2).map toI) = .error (n, k) by rw [List.map_append]; exact parseA_append _ _ _ HR.out] at CP2
      go_wp2_with fail
      refine CP2.out.mono ?_
      rintro e w7 ⟨hb7, rfl⟩
      have HB7 := Lib.hid (below_later hb16 hb7)
      clear hb7 CP2
      go_wp2
      go_ret
      exact ⟨rfl, HB7.out⟩
  · rw [hR] at CP1
    clear hR
    go_wp2_with fail
    refine CP1.out.mono ?_
    rintro e w3 ⟨hb3, v3, rfl, hd3⟩
    obtain ⟨AD, cD, rfl, _⟩ := hd3.at_
    clear hd3
    have hb13 := below_later hb12 hb3
    clear CP1 hb3 hb12
    go_wp2_with fail
    refine (lyLines_c A1 c1 z1 w3 ((HZ1.out.keep (Nat.le_refl _) hb13).more hb13.size) HL1.out).mono ?_
    rintro e w4 ⟨v4, rfl, hO4, hb4⟩
    have hb14 := below_later hb13 hb4
    obtain ⟨f1, hl4, hown4, hf4⟩ := hO4
    obtain ⟨A4, c4, rfl, hcap4⟩ := own_slice_cap hown4
    have HO4 := Lib.hid hown4
    have HF4 := Lib.hid hf4
    have HL4 := Lib.hid hl4
    have hs4 : w.heap.size ≤ w3.heap.size := hb13.size
    have hs34 : w3.heap.size ≤ w4.heap.size := hb4.size
    clear hb4 hb13 hown4 hf4 hl4
    go_wp2_with fail
    refine (lyLines_c A2 c2 z2 w4 ((HZ2.out.keep (Nat.le_refl _) hb14).more hb14.size) HL2.out).mono ?_
    rintro e w5 ⟨v5, rfl, hO5, hb5⟩
    have hb15 := below_later hb14 hb5
    obtain ⟨f2, hl5, hown5, hf5⟩ := hO5
    have hO45 := ownsRow_below HO4.out hb5
    have HF45 := Lib.hid (fun i fv l h1 h2 => ownsRow_below (HF4.out i fv l h1 h2) hb5)
    have hs5 : w4.heap.size ≤ w5.heap.size := hb5.size
    rcases hown5 with ⟨hlen5, ⟨rfl, hn5⟩ | ⟨g5, cap5, cur5, rfl, hg5, hh5, hnc5, hcm5, hcs5, hx5⟩⟩
    · have HOW := Lib.hid hO45
      have hA : Hid (LinesOwn w5 w3.heap.size (.slice A4 (madeF z1).length c4) (madeF z1)) := Lib.hid ⟨f1, HL4.out, HOW.out, HF45.out⟩
      have CP2 := Lib.hid (parse_made (HG.out.keep hb15) hA.out (by omega) HS1.out)
      clear hO45 hlen5 hf5 hl5 hb5 HO4 HF4
      obtain ⟨ti, hti, hz0, hz1, hz2⟩ := info_parts Tryd.infoLine
      go_wp2_with (first | (at_builtin; refine wpList_append_none _ rfl _ _ 22 rfl 58 ti Tryd.underlying22 hti A4 (madeF z1).length c4 hcap4 rfl (by first | rfl | (simp [hn5]; rfl)) ?_) | fail)
      refine CP2.out.mono ?_
      rcases hR2 : parseT ((madeF z1).map toI) with ⟨n, k⟩ | ds2
      · rintro e w7 ⟨hb7, rfl⟩
        have HB7 := Lib.hid (below_later hb15 hb7)
        clear hb7 CP2 hR2
        go_wp2
        go_ret
        exact ⟨rfl, HB7.out⟩
      · rintro e w7 ⟨hb7, v7, rfl, hd7⟩
        obtain ⟨A7, c7, rfl, _⟩ := hd7.at_
        have HB7 := Lib.hid (below_later hb15 hb7)
        clear hb7 CP2 hR2 hd7
        go_wp2
        go_ret
        exact ⟨rfl, HB7.out⟩
    · have HOW := Lib.hid hO45
      have HL5 := Lib.hid hl5
      have HF5 := Lib.hid hf5
      have hO5 : w5.ownsRow w4.heap.size 58 2 (.slice (some ⟨g5, 0, none⟩) (madeF z2).length cap5) (madeF z2).length (lineCells (madeF z2) f2) := ⟨hlen5, .inr ⟨g5, cap5, cur5, rfl, hg5, hh5, hnc5, hcm5, hcs5, hx5⟩⟩
      have HC5 := Lib.hid (hO5.cells (g := g5) rfl)
      have HLC := Lib.hid (lineCells_length (madeF z2) f2 hl5)
      clear hO45 hlen5 hf5 hl5 hb5 HO4 HF4 hg5 hh5 hnc5 hcm5 hcs5 hx5 hO5
      obtain ⟨ti, hti, hz0, hz1, hz2⟩ := info_parts Tryd.infoLine
      go_wp2_with (at_builtin; refine wpList_append_own _ rfl _ _ 22 rfl w3.heap.size 58 ti (.agg #[.int .i64 0, .slice none 0 0]) 2 32 Tryd.underlying22 hti hz0 hz1 hz2 rfl (by decide) _ _ _ rfl HOW.out ⟨g5, 0, none⟩ (madeF z2).length cap5 (lineCells (madeF z2) f2) rfl HLC.out HC5.out ?c2 ?c3 ?c4 ?c5 ?_)
      case c2 => exact lineCells_one _ _ (fun u hu => by obtain ⟨i, hi, rfl⟩ := List.mem_iff_getElem.1 hu; obtain ⟨A, c, hA⟩ := own_slice (HF5.out i _ ((madeF z2)[i]'(by rw [← HL5.out]; exact hi)) (List.getElem?_eq_getElem hi) (List.getElem?_eq_getElem _)); rw [hA]; rfl) (fun _ => rfl)
      case c3 => unfold maxLen; omega
      case c4 => omega
      case c5 => omega
      intro v6 w6 own6 hg6 _
      have base4 := own_base HOW.out
      have hb16 : Below w.heap.size w w6 := hb15.grown hg6 (by omega) (fun k hk => by have := base4 k hk; omega)
      have hL6 := LinesOwn.append (Nat.le_trans hs34 (Nat.le_refl _)) HL4.out HOW.out HF45.out HL5.out HF5.out hg6 own6
      obtain ⟨A6, c6, rfl⟩ := own_slice own6
      have hlen6 : (madeF z1 ++ madeF z2).length = (madeF z1).length + (madeF z2).length := by simp
      rw [← hlen6] at hL6
      have CP2 := Lib.hid (parse_made (HG.out.keep hb16) hL6 (by rw [hlen6]; omega) (fun x hx => by rcases List.mem_append.1 hx with hx | hx; exact HS1.out x hx; exact HS2.out x hx))
      rw [hlen6] at CP2
      clear own6 hg6 hL6 base4 hlen6 hti hz0 hz1 hz2 HOW HL5 HF5 HC5 HLC
      go_wp2_with fail
      refine CP2.out.mono ?_
      rcases hR2 : parseT ((madeF z1 ++ madeF z2).map toI) with ⟨n, k⟩ | ds2
      · rintro e w7 ⟨hb7, rfl⟩
        have HB7 := Lib.hid (below_later hb16 hb7)
        clear hb7 CP2 hR2
        go_wp2
        go_ret
        exact ⟨rfl, HB7.out⟩
      · rintro e w7 ⟨hb7, v7, rfl, hd7⟩
        obtain ⟨A7, c7, rfl, _⟩ := hd7.at_
        have HB7 := Lib.hid (below_later hb16 hb7)
        clear hb7 CP2 hR2 hd7
        go_wp2
        go_ret
        exact ⟨rfl, HB7.out⟩
end Go.Proofs.YtpglhidhghhmoaaDoor
