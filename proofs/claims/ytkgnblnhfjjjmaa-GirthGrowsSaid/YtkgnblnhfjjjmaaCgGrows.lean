/- GirthGrows returns true, if girth's and components' functions keep what CgBase and ChBase ask. -/
import Derived.Test.YtkgnblnhfjjjmaaCgKnown
import Derived.Test.YtkgnblnhfjjjmaaCgFacts
namespace Go.Proofs.Ytkgnblnhfjjjmaa
open Go Go.RowKit Fl

theorem grOk_of {g : GraphD} (h : validG g = true) : GrOk g.length g :=
  ⟨rfl, fun r hr => by obtain ⟨k, hk, rfl⟩ := List.mem_iff_getElem.1 hr; exact validG_sorted' h hk, fun k hk => validG_row h hk⟩
theorem gir_shut {g : GraphD} {s m : List Bool} (hg : validG g = true) (hm : ∀ u, atB s u = true → atB m u = true) : (girF g m).length = 0 ∨ 0 < (girF g s).length ∧ (girF g s).length ≤ (girF g m).length := by
  by_cases h : girF g m = []
  · exact .inl (by rw [h]; rfl)
  · obtain ⟨h1, h2⟩ := gir_least hg (closed_mono hm (gir_closed hg h))
    exact .inr ⟨List.length_pos_iff.2 h1, h2⟩
theorem gir_more {g h : GraphD} {s : List Bool} (hg : validG g = true) (hh : validG h = true) (hl : h.length = g.length) (he : ∀ (u : Nat) (z : Int), z ∈ rowG g u → z ∈ rowG h u) : (girF g s).length = 0 ∨ 0 < (girF h s).length ∧ (girF h s).length ≤ (girF g s).length := by
  by_cases h0 : girF g s = []
  · exact .inl (by rw [h0]; rfl)
  · obtain ⟨h1, h2⟩ := gir_least hh (closed_more hl he (gir_closed hg h0))
    exact .inr ⟨List.length_pos_iff.2 h1, h2⟩
theorem more_put {g : GraphD} {v : Nat} {x : Int} (hv : v < g.length) : ∀ (u : Nat) (z : Int), z ∈ rowG g u → z ∈ rowG (g.set v (insL g[v] x)) u := by
  intro u z hz
  by_cases hu : u < g.length
  · rw [rowG_at hu] at hz
    rw [rowG_at (by simpa using hu), List.getElem_set]
    split
    · rename_i e
      subst e
      exact (insL_mem _ _ _).2 (.inr hz)
    · exact hz
  · rw [rowG, List.getD_eq_getElem?_getD, List.getElem?_eq_none (by omega)] at hz
    simp at hz
set_option maxRecDepth 100000 in
set_option maxHeartbeats 8000000 in
theorem girthGrows_c (hG : DevGirth) (hT : DevThrough) (hC : DevClosed) (C : Option Addr) (k : Nat) (zs : List Int) (w : World) (hz : IntsAt w w.heap.size C zs) (hzl : zs.length ≤ maxLen) :
    Calls Try.prog 6 #[.slice C zs.length k] w fun e w' => e = .returned (.bool true) ∧ Below w.heap.size w w' := by
  have CK := Lib.hid (known6_c hG hT hC w)
  have HGi := Lib.hid hG
  have HTh := Lib.hid hT
  have HCl := Lib.hid hC
  have HZ := Lib.hid hz
  have HL := Lib.hid hzl
  clear hG hT hC hz hzl
  go_enter Try.func6, Try.ntmps6
  go_wp2_with fail
  refine CK.out.mono ?_
  rintro e w1 ⟨rfl, hb1⟩
  have ht := tape_new (c := k) HZ.out (Nat.le_refl _) hb1 HL.out
  have hb2 : Below w.heap.size w (w1.alloc (.cells #[.slice C zs.length k, .int .i64 0] 28)) := hb1.alloc hb1.size _
  have HT2 := Lib.hid ht
  have hgB : w.heap.size ≤ w1.heap.size := hb1.size
  have HB2 := Lib.hid hb2
  have hsz2 : w1.heap.size < (w1.alloc (.cells #[.slice C zs.length k, .int .i64 0] 28)).heap.size := by simp
  clear hb1 ht hb2 CK HZ HL
  go_wp2_with fail
  refine (graph_c w.heap.size w1.heap.size _ 9 _ HT2.out (by omega) (by omega) hsz2).mono ?_
  rintro e w3 ⟨gv, g, rfl, hgl, hok, hown3, ht3, hst3⟩
  obtain ⟨A, c, rfl, _⟩ := hown3.at_
  have HV := Lib.hid (hok.valid (by omega))
  have HT3 := Lib.hid ht3
  have HO3 := Lib.hid hown3
  have HB3 := Lib.hid (HB2.out.trans (hst3.below HB2.out.size hgB))
  have hsz3 := Nat.lt_of_lt_of_le hsz2 hst3.size
  generalize w1.alloc (.cells #[.slice C zs.length k, .int .i64 0] 28) = w2 at *
  clear hok ht3 hown3 hst3 HT2 HB2
  have hcz : g.length < 2 ∨ 2 ≤ g.length := by omega
  rcases hcz with hz0 | hz1
  · have HB3f := Lib.hid HB3.out
    clear HGi HTh HCl HV HT3 HO3 HB3
    go_wp2
    go_ret
    exact ⟨rfl, HB3f.out⟩
  go_wp2_with fail
  refine (shut_c w.heap.size w1.heap.size _ g.length w3 HT3.out (by omega) (by omega) hsz3).mono ?_
  rintro e w4 ⟨sv, s, rfl, hsl4, hos4, ht4, hst4⟩
  obtain ⟨B, d, rfl, hs4⟩ := own_is hos4
  have HSL := Lib.hid hsl4
  have HT4 := Lib.hid ht4
  have HO4 := Lib.hid (HO3.out.but hst4.grown hsz2)
  have HS4 := Lib.hid hos4
  have HB4 := Lib.hid (HB3.out.trans (hst4.below HB3.out.size hgB))
  have hsz4 := Nat.lt_of_lt_of_le hsz3 hst4.size
  clear HT3 HO3 HB3 hsl4 ht4 hos4 hs4 hst4
  have HRg : Hid (RowsAt w4 A g) := Lib.hid (by
    obtain ⟨A2, c2, h1, h2⟩ := HO4.out.at_
    injection h1 with h1
    subst h1
    exact h2)
  have HSs : Hid (Holds w4 B (s.map Bo)) := Lib.hid (by
    obtain ⟨A2, c2, h1, h2⟩ := own_is HS4.out
    injection h1 with h1
    subst h1
    exact h2)
  clear HTh HCl
  go_wp2_with fail
  refine (girth_ok HGi.out HRg.out HSs.out HV.out rfl HSL.out).mono ?_
  rintro e w5 ⟨X, cx, _, rfl, _, hb5⟩
  have HO5 := Lib.hid (HO4.out.keep hb5)
  have HS5 := Lib.hid (ownsRow_below HS4.out hb5)
  have HSs5 := Lib.hid (HSs.out.keep hb5)
  have HT5 := Lib.hid (HT4.out.keep hb5)
  have HB5 := Lib.hid (HB4.out.trans (hb5.mono HB4.out.size))
  have hsz5 := Nat.lt_of_lt_of_le hsz4 hb5.size
  clear hb5 HO4 HS4 HSs HRg HT4 HB4 hsz4
  obtain ⟨gn, hgn⟩ : ∃ n, Hid (n = (girF g s).length) := ⟨_, Lib.hid rfl⟩
  rw [← hgn.out]
  obtain ⟨bs, os, rfl, es0⟩ := marks_at HSs5.out (show 0 < s.length by have := HSL.out; omega)
  clear es0
  have HNews : Hid (∀ j u, (s.map Bo)[j]? = some u → w5.cell? ((⟨bs, os, none⟩ : Addr).add j) = some u) := Lib.hid (fun j u hu => by
    obtain ⟨hj, hu⟩ := List.getElem?_eq_some_iff.1 hu
    have hj' : j < s.length := by simpa using hj
    obtain ⟨b', o', hA, he⟩ := HSs5.out.bo hj'
    injection hA with hA
    injection hA with h1 h2
    subst h1 h2
    have hadd : (⟨bs, os, none⟩ : Addr).add j = ⟨bs, os + j, none⟩ := by unfold Addr.add; split <;> simp_all
    rw [hadd, he, ← hu]
    simp)
  obtain ⟨i0, hi, hi0, hi1, hi2⟩ := info_parts Try.infoBoolS
  have HLn : Hid ((s.map Bo).length = g.length * 1) := Lib.hid (by rw [List.length_map, HSL.out]; omega)
  have HOne : Hid (∀ u ∈ s.map Bo, u.oneCell' = true) := Lib.hid (fun u hu => by obtain ⟨x, _, rfl⟩ := List.mem_map.1 hu; rfl)
  have HNil := Lib.hid (World.ownsRow_nil w5 w5.heap.size 4 1)
  go_wp2_with (at_builtin; refine wpList_append_lies _ rfl _ _ 23 rfl w5.heap.size 4 i0 (.bool false) 1 1 Try.underlying23 hi hi0 hi1 hi2 rfl (by omega) (.slice none 0 0) 0 [] (by rfl) HNil.out ⟨bs, os, none⟩ g.length d (s.map Bo) (by rfl) HLn.out HNews.out HOne.out (by omega) (by unfold maxLen; omega) (by omega) (Nat.le_refl _) _ rfl ?_)
  intro gg cap w6 hown hgrow hat hlt
  have hb6 : Below w5.heap.size w5 w6 := (Below.refl w5.heap.size w5).grown hgrow (Nat.le_refl _) (fun k hk => by cases hk)
  have HM6 : Hid (w6.ownsRow w5.heap.size 4 1 (.slice (some ⟨gg, 0, none⟩) g.length cap) g.length (s.map Bo)) := Lib.hid (by simpa using hown)
  have hgg : w5.heap.size ≤ gg := own_base HM6.out gg rfl
  have HT6 := Lib.hid (HT5.out.keep hb6)
  have HSt6 : Hid (Still w1.heap.size w5.heap.size w5 w6) := Lib.hid (Still.of_below hb6)
  have hs6 := hb6.size
  clear hb6 hown hgrow hat hlt HT5 HNil HOne HLn HNews HSs5 i0 hi hi0 hi1 hi2
  go_wp2_with fail
  refine (next_c w.heap.size w1.heap.size _ (g.length : Int) w6 HT6.out (by omega) (by omega) (by omega)).mono ?_
  rintro e w7 ⟨r, hr, rfl, ht7, hg7⟩
  have hrn : r < g.length := by omega
  have hrs : r < s.length := by have := HSL.out; omega
  have HM7 := Lib.hid (own_but HM6.out hg7 hsz5)
  obtain ⟨cu, c6, f6⟩ : ∃ cu, w7.cell? ⟨gg, r, none⟩ = some cu ∧ w7.frozen? ⟨gg, r, none⟩ = false := ⟨_, own_get HM7.out (i := r) (u := Bo s[r]) (by simp [hrs])⟩
  have HM8 : Hid ((w7.setCell ⟨gg, r, none⟩ (.bool true)).ownsRow w5.heap.size 4 1 (.slice (some ⟨gg, 0, none⟩) g.length cap) g.length ((s.set r true).map Bo)) := Lib.hid (by rw [List.map_set]; exact own_put HM7.out)
  have HSt8 : Hid (Still w1.heap.size w5.heap.size w5 (w7.setCell ⟨gg, r, none⟩ (.bool true))) := Lib.hid (HSt6.out.trans ((Still.of_grown hg7 hs6).trans (Still.of_below (below_put (Below.refl w5.heap.size w7) hgg))))
  have HT8 : Hid (TapeOk (w7.setCell ⟨gg, r, none⟩ (.bool true)) w.heap.size w1.heap.size (0 + 1000 + 1000 + 1)) := Lib.hid (ht7.grown (row := some gg) ⟨rfl, rfl, rfl, by simp [World.setCell], fun i hi hne => Below.heap_setCell w7 ⟨gg, r, none⟩ _ i (fun e => hne (by rw [e]))⟩ (fun e => by injection e with e; omega) (fun k hk => by injection hk with hk; omega))
  have hs8 : w5.heap.size ≤ (w7.setCell ⟨gg, r, none⟩ (.bool true)).heap.size := by have := hg7.size; simp [World.setCell]; omega
  have hm : (s.set r true).length = g.length := by rw [List.length_set]; exact HSL.out
  have hF1 := gir_shut (m := s.set r true) HV.out (fun u hu => by rw [atB_set hrs]; split <;> first | rfl | exact hu)
  have HML := Lib.hid hm
  rw [← hgn.out] at hF1
  clear hr ht7 hg7 HM6 HM7 HT6 HSt6 hs6 hm
  generalize s.set r true = m at *
  go_wp2_with fail
  clear c6 f6
  generalize w7.setCell ⟨gg, r, none⟩ (.bool true) = w8 at *
  have HRg8 : Hid (RowsAt w8 A g) := Lib.hid (by
    obtain ⟨A2, c2, h1, h2⟩ := (HO5.out.but HSt8.out.grown hsz2).at_
    injection h1 with h1
    subst h1
    exact h2)
  refine (girth_ok HGi.out HRg8.out (ownsRow_holds HM8.out) HV.out rfl HML.out).mono ?_
  rintro e w9 ⟨X2, cx2, _, rfl, _, hb9⟩
  have HSt9 := Lib.hid (HSt8.out.trans (Still.of_below (hb9.mono hs8)))
  have HT9 := Lib.hid (HT8.out.keep hb9)
  have hs9 := Nat.le_trans hs8 hb9.size
  clear hb9 HRg8 HM8 HML HSt8 HT8 hs8 hgg
  generalize (girF g m).length = ga at *
  go_wp2_with fail
  refine (next_c w.heap.size w1.heap.size _ (g.length : Int) w9 HT9.out (by omega) (by omega) (by omega)).mono ?_
  rintro e w10 ⟨v, hv, rfl, ht10, hg10⟩
  have HSt10 := Lib.hid (HSt9.out.trans (Still.of_grown hg10 hs9))
  have HT10 := Lib.hid ht10
  have hs10 := Nat.le_trans hs9 hg10.size
  clear ht10 hg10 HSt9 HT9 hs9
  go_wp2_with fail
  refine (next_c w.heap.size w1.heap.size _ (g.length : Int) w10 HT10.out (by omega) (by omega) (by omega)).mono ?_
  rintro e w11 ⟨x, hx, rfl, ht11, hg11⟩
  have HSt11 := Lib.hid (HSt10.out.trans (Still.of_grown hg11 hs10))
  have hs11 := Nat.le_trans hs10 hg11.size
  clear ht11 hg11 HSt10 HT10 hs10
  have hvn : v < g.length := by omega
  have hxn : x < g.length := by omega
  have HO11 := Lib.hid (HO5.out.but HSt11.out.grown hsz2)
  have HS11 := Lib.hid (own_but HS5.out HSt11.out.grown hsz3)
  have HB11 := Lib.hid (HB5.out.trans (HSt11.out.below HB5.out.size hgB))
  clear HO5 HS5 HB5 HSt11
  obtain ⟨vs, hv1, hv2, hv3⟩ := HO11.out
  obtain ⟨ba, cb, hA, _, _⟩ := own_at hv2 (show 0 < g.length by omega)
  injection hA with hA _ hA2
  subst hA hA2
  have HVs := Lib.hid hv1
  have HRow := Lib.hid hv3
  have HNews : Hid (∀ j u, vs[j]? = some u → w11.cell? ((⟨ba, 0, none⟩ : Addr).add j) = some u) := Lib.hid (fun j u hu => by
    have hadd : (⟨ba, 0, none⟩ : Addr).add j = ⟨ba, j, none⟩ := by unfold Addr.add; split <;> simp_all
    rw [hadd]
    exact (own_get hv2 hu).1)
  obtain ⟨i0, hi, hi0, hi1, hi2⟩ := info_parts Try.infoRowG
  have HLn : Hid (vs.length = g.length * 1) := Lib.hid (by omega)
  have HOne : Hid (∀ u ∈ vs, u.oneCell' = true) := Lib.hid (fun u hu => by
    obtain ⟨j, hj, rfl⟩ := List.mem_iff_getElem.1 hu
    obtain ⟨A9, c9, h9, _⟩ := own_is (hv3 j _ _ (List.getElem?_eq_getElem hj) (List.getElem?_eq_getElem (by omega)))
    rw [h9]
    rfl)
  have HNil := Lib.hid (World.ownsRow_nil w11 w11.heap.size 24 1)
  clear hv1 hv2 hv3 HO11
  go_wp2_with (at_builtin; refine wpList_append_lies _ rfl _ _ 22 rfl w11.heap.size 24 i0 (.slice none 0 0) 1 24 Try.underlying22 hi hi0 hi1 hi2 rfl (by omega) (.slice none 0 0) 0 [] (by rfl) HNil.out ⟨ba, 0, none⟩ g.length _ vs (by rfl) HLn.out HNews.out HOne.out (by omega) (by unfold maxLen; omega) (by omega) (Nat.le_refl _) _ rfl ?_)
  intro hh ch w12 hown hgrow hat hlt
  have hb12 : Below w11.heap.size w11 w12 := (Below.refl w11.heap.size w11).grown hgrow (Nat.le_refl _) (fun k hk => by cases hk)
  have hown2 : w12.ownsRow w11.heap.size 24 1 (.slice (some ⟨hh, 0, none⟩) g.length ch) g.length vs := by simpa using hown
  have hhh : w11.heap.size ≤ hh := own_base hown2 hh rfl
  have HO12 : Hid (RowsOwn w12 (w1.heap.size + 1) (.slice (some ⟨hh, 0, none⟩) g.length ch) g) := Lib.hid ⟨vs, HVs.out, ownsRow_base hown2 (by omega), fun k u r h1 h2 => ownsRow_base (ownsRow_below (HRow.out k u r h1 h2) hb12) (by omega)⟩
  have HS12 := Lib.hid (ownsRow_below HS11.out hb12)
  have HB12 := Lib.hid (HB11.out.trans (hb12.mono HB11.out.size))
  have hs12 := Nat.le_trans hs11 hb12.size
  have HSh : Hid (Holds w11 (some ⟨bs, os, none⟩) (s.map Bo)) := Lib.hid (ownsRow_holds HS11.out)
  have HSk : Hid (∀ W, Below w11.heap.size w11 W → Holds W (some ⟨bs, os, none⟩) (s.map Bo)) := Lib.hid (fun W hW => HSh.out.keep hW)
  have HBk : Hid (∀ W, Below w11.heap.size w11 W → Below w.heap.size w W) := Lib.hid (fun W hW => HB11.out.trans (hW.mono HB11.out.size))
  have Hb12 := Lib.hid hb12
  clear hb12 hown hown2 hgrow hat hlt HVs HRow HNews HLn HOne HNil HS11 HB11 HS12 HB12 HSh i0 hi hi0 hi1 hi2
  by_cases hvx : v = x
  · have hne : ((v : Int) != (x : Int)) = false := by simp [hvx]
    obtain ⟨h, Hh⟩ : ∃ h, Hid (h = g) := ⟨_, Lib.hid rfl⟩
    have hLh : h.length = g.length := by rw [Hh.out]
    have HVh : Hid (validG h = true) := Lib.hid (by rw [Hh.out]; exact HV.out)
    have HF2 : Hid (gn = 0 ∨ 0 < (girF h s).length ∧ (girF h s).length ≤ gn) := Lib.hid (by rw [Hh.out, ← hgn.out]; omega)
    have HRh : Hid (RowsAt w12 (some ⟨hh, 0, none⟩) h) := Lib.hid (by
      rw [Hh.out]
      obtain ⟨A2, c2, h1, h2⟩ := HO12.out.at_
      injection h1 with h1
      subst h1
      exact h2)
    have HSsE := Lib.hid (HSk.out w12 Hb12.out)
    have HBE := Lib.hid (HBk.out w12 Hb12.out)
    clear HO12 HSk HBk Hb12 Hh hgn
    go_wp2_with fail
    refine (girth_ok HGi.out HRh.out HSsE.out HVh.out hLh HSL.out).mono ?_
    rintro e w15 ⟨Z, cz, _, rfl, _, hb15⟩
    have HBz := Lib.hid (HBE.out.trans (hb15.mono HBE.out.size))
    have hF2 := HF2.out
    clear hb15 HRh HSsE HBE HVh HF2 hLh
    generalize (girF h s).length = gb at *
    have hcase : (((ga : Int) == 0) = true ∧ ((gn : Int) == 0) = true) ∨ (((ga : Int) == 0) = true ∧ ((gn : Int) == 0) = false ∧ 0 < gb ∧ gb ≤ gn) ∨ (((ga : Int) == 0) = false ∧ ((gn : Int) == 0) = false ∧ 0 < gb ∧ gb ≤ gn ∧ 0 < gn ∧ gn ≤ ga) := by
      by_cases ha : ga = 0
      · by_cases hb : gn = 0
        · exact .inl ⟨by rw [beq_iff_eq]; omega, by rw [beq_iff_eq]; omega⟩
        · exact .inr (.inl ⟨by rw [beq_iff_eq]; omega, by rw [beq_eq_false_iff_ne]; omega, by omega, by omega⟩)
      · exact .inr (.inr ⟨by rw [beq_eq_false_iff_ne]; omega, by rw [beq_eq_false_iff_ne]; omega, by omega, by omega, by omega, by omega⟩)
    clear hF1 hF2
    rcases hcase with ⟨h1, h2⟩ | ⟨h1, h2, h3, h4⟩ | ⟨h1, h2, h3, h4, h5, h6⟩
    all_goals
      go_wp2
      go_ret
      exact ⟨by first | rfl | (simp; omega), HBz.out⟩
  · have hne : ((v : Int) != (x : Int)) = true := by rw [bne_iff_ne]; omega
    obtain ⟨A1, c1, e1, f1, h1⟩ := HO12.out.cell hvn
    have hr24 : g[v].length ≤ 24 := by have := validG_short HV.out _ (List.getElem_mem hvn); exact this
    have CH := Lib.hid (has_c A1 c1 g[v] x w12 h1 (by omega))
    have CI := Lib.hid (insert_c A1 c1 g[v] x w12 h1 (by omega))
    by_cases hin : (x : Int) ∈ g[v]
    · rw [decide_eq_true hin] at CH
      obtain ⟨h, Hh⟩ : ∃ h, Hid (h = g) := ⟨_, Lib.hid rfl⟩
      have hLh : h.length = g.length := by rw [Hh.out]
      have HVh : Hid (validG h = true) := Lib.hid (by rw [Hh.out]; exact HV.out)
      have HF2 : Hid (gn = 0 ∨ 0 < (girF h s).length ∧ (girF h s).length ≤ gn) := Lib.hid (by rw [Hh.out, ← hgn.out]; omega)
      have HRh : Hid (RowsAt w12 (some ⟨hh, 0, none⟩) h) := Lib.hid (by
        rw [Hh.out]
        obtain ⟨A2, c2, h1, h2⟩ := HO12.out.at_
        injection h1 with h1
        subst h1
        exact h2)
      have HSsE := Lib.hid (HSk.out w12 Hb12.out)
      have HBE := Lib.hid (HBk.out w12 Hb12.out)
      clear HO12 HSk HBk Hb12 Hh hgn h1 CI hin
      generalize g[v] = r at *
      go_wp2_with fail
      refine CH.out.mono ?_
      rintro e w13 ⟨rfl, rfl⟩
      clear e1 f1 CH
      go_wp2_with fail
      refine (girth_ok HGi.out HRh.out HSsE.out HVh.out hLh HSL.out).mono ?_
      rintro e w15 ⟨Z, cz, _, rfl, _, hb15⟩
      have HBz := Lib.hid (HBE.out.trans (hb15.mono HBE.out.size))
      have hF2 := HF2.out
      clear hb15 HRh HSsE HBE HVh HF2 hLh
      generalize (girF h s).length = gb at *
      have hcase : (((ga : Int) == 0) = true ∧ ((gn : Int) == 0) = true) ∨ (((ga : Int) == 0) = true ∧ ((gn : Int) == 0) = false ∧ 0 < gb ∧ gb ≤ gn) ∨ (((ga : Int) == 0) = false ∧ ((gn : Int) == 0) = false ∧ 0 < gb ∧ gb ≤ gn ∧ 0 < gn ∧ gn ≤ ga) := by
        by_cases ha : ga = 0
        · by_cases hb : gn = 0
          · exact .inl ⟨by rw [beq_iff_eq]; omega, by rw [beq_iff_eq]; omega⟩
          · exact .inr (.inl ⟨by rw [beq_iff_eq]; omega, by rw [beq_eq_false_iff_ne]; omega, by omega, by omega⟩)
        · exact .inr (.inr ⟨by rw [beq_eq_false_iff_ne]; omega, by rw [beq_eq_false_iff_ne]; omega, by omega, by omega, by omega, by omega⟩)
      clear hF1 hF2
      rcases hcase with ⟨h1, h2⟩ | ⟨h1, h2, h3, h4⟩ | ⟨h1, h2, h3, h4, h5, h6⟩
      all_goals
        go_wp2
        go_ret
        exact ⟨by first | rfl | (simp; omega), HBz.out⟩
    · rw [decide_eq_false hin] at CH
      obtain ⟨h, Hh⟩ : ∃ h, Hid (h = g.set v (insL g[v] x)) := ⟨_, Lib.hid rfl⟩
      have hLh : h.length = g.length := by rw [Hh.out]; simp
      have HVh : Hid (validG h = true) := Lib.hid (by rw [Hh.out]; exact ((grOk_of HV.out).put hvn (by omega) hin).valid (by omega))
      have HF2 : Hid (gn = 0 ∨ 0 < (girF h s).length ∧ (girF h s).length ≤ gn) := Lib.hid (by rw [hgn.out]; exact gir_more HV.out HVh.out hLh (by rw [Hh.out]; exact more_put hvn))
      have HPutR : Hid (∀ (W : World) u, RowsOwn W (w1.heap.size + 1) (.slice (some ⟨hh, 0, none⟩) g.length ch) g → W.ownsRow (w1.heap.size + 1) 3 1 u (insL g[v] x).length ((insL g[v] x).map Iv) → RowsOwn (W.setCell ⟨hh, v, none⟩ u) (w1.heap.size + 1) (.slice (some ⟨hh, 0, none⟩) g.length ch) h) := Lib.hid (fun W u h1 h2 => by
        rw [Hh.out]
        exact h1.put h2 rfl)
      clear h1 hin Hh hgn
      generalize insL g[v] x = r2 at *
      generalize hgr : g[v] = r at *
      go_wp2_with fail
      refine CH.out.mono ?_
      rintro e w13 ⟨rfl, rfl⟩
      go_wp2_with fail
      refine CI.out.mono ?_
      rintro e w13 ⟨u, rfl, own13, hb13⟩
      obtain ⟨Au, cu, rfl, _⟩ := own_is own13
      have HO13 := Lib.hid (HO12.out.keep hb13)
      obtain ⟨A7, c7, e7, f7, _⟩ := HO13.out.cell hvn
      have HO14 := Lib.hid (HPutR.out w13 _ HO13.out (ownsRow_base own13 (by omega)))
      have hb14 : Below w11.heap.size w11 (w13.setCell ⟨hh, v, none⟩ (.slice Au r2.length cu)) := below_put (Hb12.out.trans (hb13.mono Hb12.out.size)) hhh
      have HRh : Hid (RowsAt (w13.setCell ⟨hh, v, none⟩ (.slice Au r2.length cu)) (some ⟨hh, 0, none⟩) h) := Lib.hid (by
        rw [← hLh] at HO14
        obtain ⟨A2, c2, h1, h2⟩ := HO14.out.at_
        injection h1 with h1
        subst h1
        exact h2)
      have HSsE := Lib.hid (HSk.out _ hb14)
      have HBE := Lib.hid (HBk.out _ hb14)
      clear own13 hb13 hb14 HO12 HO13 HO14 HPutR HSk HBk Hb12 e1 f1 CH CI
      generalize hlen : (g[v]'hvn).length = lenr at *
      clear hlen
      go_wp2_with fail
      refine (girth_ok HGi.out HRh.out HSsE.out HVh.out hLh HSL.out).mono ?_
      rintro e w15 ⟨Z, cz, _, rfl, _, hb15⟩
      have HBz := Lib.hid (HBE.out.trans (hb15.mono HBE.out.size))
      have hF2 := HF2.out
      clear hb15 HRh HSsE HBE HVh HF2 hLh
      generalize (girF h s).length = gb at *
      have hcase : (((ga : Int) == 0) = true ∧ ((gn : Int) == 0) = true) ∨ (((ga : Int) == 0) = true ∧ ((gn : Int) == 0) = false ∧ 0 < gb ∧ gb ≤ gn) ∨ (((ga : Int) == 0) = false ∧ ((gn : Int) == 0) = false ∧ 0 < gb ∧ gb ≤ gn ∧ 0 < gn ∧ gn ≤ ga) := by
        by_cases ha : ga = 0
        · by_cases hb : gn = 0
          · exact .inl ⟨by rw [beq_iff_eq]; omega, by rw [beq_iff_eq]; omega⟩
          · exact .inr (.inl ⟨by rw [beq_iff_eq]; omega, by rw [beq_eq_false_iff_ne]; omega, by omega, by omega⟩)
        · exact .inr (.inr ⟨by rw [beq_eq_false_iff_ne]; omega, by rw [beq_eq_false_iff_ne]; omega, by omega, by omega, by omega, by omega⟩)
      clear hF1 hF2
      rcases hcase with ⟨h1, h2⟩ | ⟨h1, h2, h3, h4⟩ | ⟨h1, h2, h3, h4, h5, h6⟩
      all_goals
        go_wp2
        go_ret
        exact ⟨by first | rfl | (simp; omega), HBz.out⟩
end Go.Proofs.Ytkgnblnhfjjjmaa
