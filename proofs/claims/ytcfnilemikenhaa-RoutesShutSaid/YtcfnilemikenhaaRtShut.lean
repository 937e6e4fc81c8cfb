/- RoutesShut returns true, if routes' functions keep what RtBase asks. -/
import Derived.Test.YtcfnilemikenhaaRtBase
namespace Go.Proofs.Ytcfnilemikenhaa
open Go Go.RowKit Fl

theorem rn_mono {g : GraphD} {s m : List Bool} (hm : ∀ u, atB s u = true → atB m u = true) {k u v : Nat} (h : Rn g m k u v) : Rn g s k u v := by
  have key : ∀ u, atB m u = false → atB s u = false := fun u hu => by
    rcases e : atB s u with _ | _
    · rfl
    · rw [hm u e] at hu; cases hu
  induction h with
  | zero a b => exact .zero a (key _ b)
  | succ a b c _ ih => exact .succ a (key _ b) c ih
theorem dist_el {g : GraphD} {s : List Bool} {goal v : Nat} (hv : v < (distF g s goal).length) : (distF g s goal)[v] = dAt (distF g s goal) v := by
  unfold dAt
  rw [List.getD_eq_getElem?_getD, List.getElem?_eq_getElem hv]
  rfl
theorem dist_shut {g : GraphD} {s m : List Bool} {goal v : Nat} (hg : validG g = true) (hgo : goal < g.length) (hv : v < g.length) (hm : ∀ u, atB s u = true → atB m u = true) :
    dAt (distF g m goal) v < 0 ∨ 0 ≤ dAt (distF g m goal) v ∧ 0 ≤ dAt (distF g s goal) v ∧ dAt (distF g s goal) v ≤ dAt (distF g m goal) v := by
  by_cases h : dAt (distF g m goal) v < 0
  · exact .inl h
  · obtain ⟨k, hk⟩ := Int.eq_ofNat_of_zero_le (show 0 ≤ dAt (distF g m goal) v by omega)
    have h2 := dist_le hg (rn_mono hm (dist_is hg hgo hv hk))
    exact .inr ⟨by omega, h2.1, by omega⟩
set_option maxRecDepth 100000 in
set_option maxHeartbeats 8000000 in
theorem routesShut_c (hD : DevDist) (hH : DevHops) (hP : DevPath) (hT : DevTable) (C : Option Addr) (k : Nat) (zs : List Int) (w : World) (hz : IntsAt w w.heap.size C zs) (hzl : zs.length ≤ maxLen) :
    Calls Try.prog 6 #[.slice C zs.length k] w fun e w' => e = .returned (.bool true) ∧ Below w.heap.size w w' := by
  have CK := Lib.hid (known7_c hD hH hP hT w)
  have HDi := Lib.hid hD
  have HHo := Lib.hid hH
  have HPa := Lib.hid hP
  have HZ := Lib.hid hz
  have HL := Lib.hid hzl
  clear hD hH hP hT hz hzl
  go_enter Try.func6, Try.ntmps6
  go_wp2_with fail
  refine CK.out.mono ?_
  rintro e w1 ⟨rfl, hb1⟩
  have ht := tape_new (c := k) HZ.out (Nat.le_refl _) hb1 HL.out
  have hb2 : Below w.heap.size w (w1.alloc (.cells #[.slice C zs.length k, .int .i64 0] 29)) := hb1.alloc hb1.size _
  have HT2 := Lib.hid ht
  have hgB : w.heap.size ≤ w1.heap.size := hb1.size
  have HB2 := Lib.hid hb2
  have hsz2 : w1.heap.size < (w1.alloc (.cells #[.slice C zs.length k, .int .i64 0] 29)).heap.size := by simp
  clear hb1 ht hb2 CK HZ HL
  go_wp2_with fail
  refine (graph_c w.heap.size w1.heap.size _ 9 _ HT2.out (by omega) (by omega) hsz2).mono ?_
  rintro e w3 ⟨gv, g, rfl, hgl, hok, hown3, ht3, hst3⟩
  obtain ⟨A, c, rfl, _⟩ := hown3.at_
  have HV := Lib.hid (hok.valid (by omega))
  have HT3 := Lib.hid ht3
  have HO3 := Lib.hid hown3
  have HB3 := Lib.hid (HB2.out.trans (hst3.below HB2.out.size hgB))
  have hsz3 := Nat.lt_of_lt_of_le hsz2 hst3.size
  generalize w1.alloc (.cells #[.slice C zs.length k, .int .i64 0] 29) = w2 at *
  clear hok ht3 hown3 hst3 HT2 HB2
  have hcz : g.length = 0 ∨ 0 < g.length := by omega
  rcases hcz with hz0 | hz1
  · have HB3f := Lib.hid HB3.out
    have hq : ((g.length : Int) == 0) = true := by simp [hz0]
    clear HDi HHo HPa HV HT3 HO3 HB3 hz0
    go_wp2
    go_ret
    exact ⟨rfl, HB3f.out⟩
  have hq : ((g.length : Int) == 0) = false := by rw [beq_eq_false_iff_ne]; omega
  go_wp2_with fail
  refine (shut_c w.heap.size w1.heap.size _ g.length w3 HT3.out (by omega) (by omega) hsz3).mono ?_
  rintro e w4 ⟨sv, s, rfl, hsl4, hos4, ht4, hst4⟩
  obtain ⟨B, d, rfl, hs4⟩ := own_is hos4
  have HSL := Lib.hid hsl4
  have HT4 := Lib.hid ht4
  have HO4 := Lib.hid (HO3.out.but hst4.grown hsz2)
  have HS4 := Lib.hid hos4
  have HB4 := Lib.hid (HB3.out.trans (hst4.below HB3.out.size hgB))
  have hsz4 := Nat.lt_of_lt_of_le hsz3 hst4.size
  clear HT3 HO3 HB3 hsl4 ht4 hos4 hs4 hst4
  have HRg : Hid (RowsAt w4 A g) := Lib.hid (by
    obtain ⟨A2, c2, h1, h2⟩ := HO4.out.at_
    injection h1 with h1
    subst h1
    exact h2)
  have HSs : Hid (Holds w4 B (s.map Bo)) := Lib.hid (by
    obtain ⟨A2, c2, h1, h2⟩ := own_is HS4.out
    injection h1 with h1
    subst h1
    exact h2)
  clear HHo HPa HRg hq
  obtain ⟨bs, os, rfl, es0⟩ := marks_at HSs.out (show 0 < s.length by have := HSL.out; omega)
  clear es0
  have HNews : Hid (∀ j u, (s.map Bo)[j]? = some u → w4.cell? ((⟨bs, os, none⟩ : Addr).add j) = some u) := Lib.hid (fun j u hu => by
    obtain ⟨hj, hu⟩ := List.getElem?_eq_some_iff.1 hu
    have hj' : j < s.length := by simpa using hj
    obtain ⟨b', o', hA, he⟩ := HSs.out.bo hj'
    injection hA with hA
    injection hA with h1 h2
    subst h1 h2
    have hadd : (⟨bs, os, none⟩ : Addr).add j = ⟨bs, os + j, none⟩ := by unfold Addr.add; split <;> simp_all
    rw [hadd, he, ← hu]
    simp)
  obtain ⟨i0, hi, hi0, hi1, hi2⟩ := info_parts Try.infoBoolS
  have HLn : Hid ((s.map Bo).length = g.length * 1) := Lib.hid (by rw [List.length_map, HSL.out]; omega)
  have HOne : Hid (∀ u ∈ s.map Bo, u.oneCell' = true) := Lib.hid (fun u hu => by obtain ⟨x, _, rfl⟩ := List.mem_map.1 hu; rfl)
  have HNil := Lib.hid (World.ownsRow_nil w4 w4.heap.size 4 1)
  go_wp2_with (at_builtin; refine wpList_append_lies _ rfl _ _ 23 rfl w4.heap.size 4 i0 (.bool false) 1 1 Try.underlying23 hi hi0 hi1 hi2 rfl (by omega) (.slice none 0 0) 0 [] (by rfl) HNil.out ⟨bs, os, none⟩ g.length d (s.map Bo) (by rfl) HLn.out HNews.out HOne.out (by omega) (by unfold maxLen; omega) (by omega) (Nat.le_refl _) _ rfl ?_)
  intro gg cap w5 hown hgrow hat hlt
  have hb5 : Below w4.heap.size w4 w5 := (Below.refl w4.heap.size w4).grown hgrow (Nat.le_refl _) (fun k hk => by cases hk)
  have HM5 : Hid (w5.ownsRow w4.heap.size 4 1 (.slice (some ⟨gg, 0, none⟩) g.length cap) g.length (s.map Bo)) := Lib.hid (by simpa using hown)
  have hgg : w4.heap.size ≤ gg := own_base HM5.out gg rfl
  have HT5 := Lib.hid (HT4.out.keep hb5)
  have HSt5 : Hid (Still w1.heap.size w4.heap.size w4 w5) := Lib.hid (Still.of_below hb5)
  have hs5 := hb5.size
  clear hb5 hown hgrow hat hlt HT4 HNil HOne HLn HNews HSs i0 hi hi0 hi1 hi2
  go_wp2_with fail
  refine (next_c w.heap.size w1.heap.size _ (g.length : Int) w5 HT5.out (by omega) (by omega) (by omega)).mono ?_
  rintro e w6 ⟨r, hr, rfl, ht6, hg6⟩
  have hrn : r < g.length := by omega
  have hrs : r < s.length := by have := HSL.out; omega
  have HM6 := Lib.hid (own_but HM5.out hg6 hsz4)
  obtain ⟨cu, c6, f6⟩ : ∃ cu, w6.cell? ⟨gg, r, none⟩ = some cu ∧ w6.frozen? ⟨gg, r, none⟩ = false := ⟨_, own_get HM6.out (i := r) (u := Bo s[r]) (by simp [hrs])⟩
  have HM7 : Hid ((w6.setCell ⟨gg, r, none⟩ (.bool true)).ownsRow w4.heap.size 4 1 (.slice (some ⟨gg, 0, none⟩) g.length cap) g.length ((s.set r true).map Bo)) := Lib.hid (by rw [List.map_set]; exact own_put HM6.out)
  have HSt7 : Hid (Still w1.heap.size w4.heap.size w4 (w6.setCell ⟨gg, r, none⟩ (.bool true))) := Lib.hid (HSt5.out.trans ((Still.of_grown hg6 hs5).trans (Still.of_below (below_put (Below.refl w4.heap.size w6) hgg))))
  have HT7 : Hid (TapeOk (w6.setCell ⟨gg, r, none⟩ (.bool true)) w.heap.size w1.heap.size (0 + 1000 + 1000 + 1)) := Lib.hid (ht6.grown (row := some gg) ⟨rfl, rfl, rfl, by simp [World.setCell], fun i hi hne => Below.heap_setCell w6 ⟨gg, r, none⟩ _ i (fun e => hne (by rw [e]))⟩ (fun e => by injection e with e; omega) (fun k hk => by injection hk with hk; omega))
  have hs7 : w4.heap.size ≤ (w6.setCell ⟨gg, r, none⟩ (.bool true)).heap.size := by have := hg6.size; simp [World.setCell]; omega
  have hm : (s.set r true).length = g.length := by rw [List.length_set]; exact HSL.out
  have HMono : Hid (∀ u, atB s u = true → atB (s.set r true) u = true) := Lib.hid (fun u hu => by rw [atB_set hrs]; split <;> first | rfl | exact hu)
  have HML := Lib.hid hm
  clear hr ht6 hg6 HM5 HM6 HT5 HSt5 hs5 hm
  generalize s.set r true = m at *
  go_wp2_with fail
  clear c6 f6
  generalize w6.setCell ⟨gg, r, none⟩ (.bool true) = w7 at *
  refine (next_c w.heap.size w1.heap.size _ (g.length : Int) w7 HT7.out (by omega) (by omega) (by omega)).mono ?_
  rintro e w8 ⟨goal, hv, rfl, ht8, hg8⟩
  have hvn : goal < g.length := by omega
  have hst8 := HSt7.out.trans (Still.of_grown hg8 hs7)
  have HMm8 : Hid (Holds w8 (some ⟨gg, 0, none⟩) (m.map Bo)) := Lib.hid (ownsRow_holds (own_but HM7.out hg8 hsz4))
  have HRg8 : Hid (RowsAt w8 A g) := Lib.hid (by
    obtain ⟨A2, c2, h1, h2⟩ := (HO4.out.but hst8.grown hsz2).at_
    injection h1 with h1
    subst h1
    exact h2)
  have HSs8 : Hid (Holds w8 (some ⟨bs, os, none⟩) (s.map Bo)) := Lib.hid (ownsRow_holds (own_but HS4.out hst8.grown hsz3))
  have HB8 := Lib.hid (HB4.out.trans (hst8.below HB4.out.size hgB))
  clear hv ht8 hg8 hst8 HM7 HSt7 HT7 hs7 HO4 HS4 HB4 hsz4 hgg
  go_wp2_with fail
  refine (dist_ok HDi.out (v := goal) HRg8.out HSs8.out HV.out rfl HSL.out hvn).mono ?_
  rintro e w9 ⟨X1, c1, rfl, hx1, hb9⟩
  have HRg9 := Lib.hid (HRg8.out.keep hb9)
  have HMm9 := Lib.hid (HMm8.out.keep hb9)
  have HB9 := Lib.hid (HB8.out.trans (hb9.mono HB8.out.size))
  have HA9 := Lib.hid hx1
  clear hx1 hb9 HRg8 HSs8 HMm8 HB8
  go_wp2_with fail
  refine (dist_ok HDi.out (v := goal) HRg9.out HMm9.out HV.out rfl HML.out hvn).mono ?_
  rintro e w10 ⟨X2, c2, rfl, hx2, hb10⟩
  have HB10 := Lib.hid (HB9.out.trans (hb10.mono HB9.out.size))
  have HA10 := Lib.hid (HA9.out.keep hb10)
  have HC10 := Lib.hid hx2
  have HFa := Lib.hid (fun v hv => dist_shut (v := v) HV.out hvn hv HMono.out)
  clear hx2 hb10 HRg9 HMm9 HB9 HA9 HDi
  go_wp2
  go_loopw [12] (fun i wr => ∃ x : Nat, i = .int .i64 x ∧ x ≤ g.length ∧ Hid (Below w10.heap.size w10 wr)) (fun i _ => g.length - (intOf i).toNat)
  case atStart => exact ⟨0, rfl, Nat.zero_le _, Lib.hid (Below.refl _ _)⟩
  case round =>
    obtain ⟨v, rfl, hv, HW⟩ := hrel
    by_cases hvt : v < g.length
    · have hl1 : v < (distF g s goal).length := by rw [distF_length]; exact hvt
      have hl2 : v < (distF g m goal).length := by rw [distF_length]; exact hvt
      obtain ⟨b1, o1, rfl, e1⟩ := (HA10.out.keep HW.out).iv hl1
      obtain ⟨b2, o2, rfl, e2⟩ := (HC10.out.keep HW.out).iv hl2
      rw [dist_el] at e1 e2
      have hf := HFa.out v hvt
      generalize dAt (distF g s goal) v = x at *
      generalize dAt (distF g m goal) v = y at *
      have hcase : decide (0 ≤ y) = false ∨ decide (0 ≤ y) = true ∧ decide (x < 0) = false ∧ decide (y < x) = false := by
        simp only [decide_eq_true_eq, decide_eq_false_iff_not]
        omega
      clear hl1 hl2 hf
      rcases hcase with h1 | ⟨h1, h2, h3⟩
      all_goals
        go_wp2_with fail
        go_quiet (fail)
        have HW2 := Lib.hid (below_drewN HW.out nq)
        clear HW e1 e2
        go_wp2
        go_roundw
        case rel => exact ⟨v + 1, by go_num, by omega, HW2⟩
        case measure => simp [intOf]; omega
    · go_wp2
      go_ret
      exact ⟨rfl, HB10.out.trans (HW.out.mono HB10.out.size)⟩
end Go.Proofs.Ytcfnilemikenhaa
