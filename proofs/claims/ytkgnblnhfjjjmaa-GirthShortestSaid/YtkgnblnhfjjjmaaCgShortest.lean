/- GirthShortest returns true, if girth's and components' functions keep what CgBase and ChBase ask. -/
import Derived.Test.YtkgnblnhfjjjmaaCgKnown
import Derived.Test.YtkgnblnhfjjjmaaCgFacts
import Derived.Test.YtkgnblnhfjjjmaaGsCls
namespace Go.Proofs.Ytkgnblnhfjjjmaa
open Go Go.RowKit Fl

theorem Holds.takeG {w : World} {A : Option Addr} {xs : List Value} (h : Holds w A xs) (m : Nat) : Holds w A (xs.take m) := by
  rcases h with h | ⟨b, o, hA, hb, hc⟩
  · exact .inl (by rw [h]; simp)
  · exact .inr ⟨b, o, hA, hb, fun j hj => by rw [hc j (by simp at hj; omega)]; simp⟩
set_option maxRecDepth 100000 in
set_option maxHeartbeats 8000000 in
theorem girthShortest_c (hG : DevGirth) (hT : DevThrough) (hC : DevClosed) (C D : Option Addr) (k kd : Nat) (zs ys : List Int) (w : World) (hz : IntsAt w w.heap.size C zs) (hzl : zs.length ≤ maxLen) (hy : IntsAt w w.heap.size D ys) (hyl : ys.length ≤ maxLen) :
    Calls Try.prog 4 #[.slice C zs.length k, .slice D ys.length kd] w fun e w' => e = .returned (.bool true) ∧ Below w.heap.size w w' := by
  have HD := Lib.hid hy
  unfold maxLen at hyl
  clear hy
  have CK := Lib.hid (known6_c hG hT hC w)
  have HGi := Lib.hid hG
  have HTh := Lib.hid hT
  have HCl := Lib.hid hC
  have HZ := Lib.hid hz
  have HL := Lib.hid hzl
  clear hG hT hC hz hzl
  go_enter Try.func4, Try.ntmps4
  go_wp2_with fail
  refine CK.out.mono ?_
  rintro e w1 ⟨rfl, hb1⟩
  have ht := tape_new (c := k) HZ.out (Nat.le_refl _) hb1 HL.out
  have hb2 : Below w.heap.size w (w1.alloc (.cells #[.slice C zs.length k, .int .i64 0] 28)) := hb1.alloc hb1.size _
  have HT2 := Lib.hid ht
  have hgB : w.heap.size ≤ w1.heap.size := hb1.size
  have HB2 := Lib.hid hb2
  have hsz2 : w1.heap.size < (w1.alloc (.cells #[.slice C zs.length k, .int .i64 0] 28)).heap.size := by simp
  clear hb1 ht hb2 CK HZ HL
  go_wp2_with fail
  refine (graph_c w.heap.size w1.heap.size _ 9 _ HT2.out (by omega) (by omega) hsz2).mono ?_
  rintro e w3 ⟨gv, g, rfl, hgl, hok, hown3, ht3, hst3⟩
  obtain ⟨A, c, rfl, _⟩ := hown3.at_
  have HV := Lib.hid (hok.valid (by omega))
  have HT3 := Lib.hid ht3
  have HO3 := Lib.hid hown3
  have HB3 := Lib.hid (HB2.out.trans (hst3.below HB2.out.size hgB))
  have hsz3 := Nat.lt_of_lt_of_le hsz2 hst3.size
  generalize w1.alloc (.cells #[.slice C zs.length k, .int .i64 0] 28) = w2 at *
  clear hok ht3 hown3 hst3 HT2 HB2
  go_wp2_with fail
  refine (shut_c w.heap.size w1.heap.size _ g.length w3 HT3.out (by omega) (by omega) hsz3).mono ?_
  rintro e w4 ⟨sv, s, rfl, hsl4, hos4, ht4, hst4⟩
  obtain ⟨B, d, rfl, hs4⟩ := own_is hos4
  have HSL := Lib.hid hsl4
  have HT4 := Lib.hid ht4
  have HO4 := Lib.hid (HO3.out.but hst4.grown hsz2)
  have HS4 := Lib.hid hos4
  have HB4 := Lib.hid (HB3.out.trans (hst4.below HB3.out.size hgB))
  have hsz4 := Nat.lt_of_lt_of_le hsz3 hst4.size
  clear HT3 HO3 HB3 hsl4 ht4 hos4 hs4 hst4
  have HRg : Hid (RowsAt w4 A g) := Lib.hid (by
    obtain ⟨A2, c2, h1, h2⟩ := HO4.out.at_
    injection h1 with h1
    subst h1
    exact h2)
  have HSs : Hid (Holds w4 B (s.map Bo)) := Lib.hid (by
    obtain ⟨A2, c2, h1, h2⟩ := own_is HS4.out
    injection h1 with h1
    subst h1
    exact h2)
  clear HTh HT4 HO4 HS4 hgB hsz4
  go_wp2_with fail
  refine (girth_ok HGi.out HRg.out HSs.out HV.out rfl HSL.out).mono ?_
  rintro e w5 ⟨X, cx, hcx, rfl, hx5, hb5⟩
  have HRg5 := Lib.hid (HRg.out.keep hb5)
  have HSs5 := Lib.hid (HSs.out.keep hb5)
  have HB5 := Lib.hid (HB4.out.trans (hb5.mono HB4.out.size))
  have HX5 := Lib.hid hx5
  clear hb5 hx5 HRg HSs HB4
  have hsh : (girF g s).length ≤ 25 := by have := girK_short (s := s) HV.out g.length (Nat.le_refl _); exact this
  have HNd := Lib.hid (gir_nodup (s := s) HV.out)
  have HLs := Lib.hid (fun (l : List Int) (h : ClosedL g s l) => gir_least HV.out h)
  have HGc := Lib.hid (fun (h : girF g s ≠ []) => gir_closed HV.out h)
  generalize girF g s = F at *
  have hcase : F.length = 0 ∨ 0 < F.length := by omega
  rcases hcase with hf0 | hf0
  · have HRg6 := HRg5
    have HSs6 := HSs5
    have HB6 := HB5
    have HX6 := HX5
    clear HRg5 HSs5 HB5 HX5
    obtain ⟨w6, hw6⟩ : ∃ w6, w6 = w5 := ⟨_, rfl⟩
    rw [← hw6] at HRg6 HSs6 HB6 HX6 ⊢
    clear hw6
    obtain rfl : F = [] := List.eq_nil_of_length_eq_zero hf0
    clear hf0 hsh hcx
    rw [show (([] : List Int).length : Int) = 0 from rfl, show ([] : List Int).length = 0 from rfl]
    go_wp2
    go_loopw [11] (fun i wr => ∃ m : Nat, i = .int .i64 m ∧ m ≤ ([] : List Int).length ∧ Hid (Below w6.heap.size w6 wr)) (fun i _ => ([] : List Int).length - (intOf i).toNat)
    case atStart => exact ⟨0, rfl, Nat.zero_le _, Lib.hid (Below.refl _ _)⟩
    case round =>
      obtain ⟨m, rfl, hm, HW⟩ := hrel
      by_cases hmt : m < ([] : List Int).length
      · exfalso
        simp at hmt
      · obtain rfl : m = 0 := by simp at hm; omega
        rw [show (((0 : Nat) : Int)) = 0 from rfl]
        have HRg7 := Lib.hid (HRg6.out.keep HW.out)
        have HSs7 := Lib.hid (HSs6.out.keep HW.out)
        have HB7 := Lib.hid (HB6.out.trans (HW.out.mono HB6.out.size))
        have HD7 := Lib.hid (HD.out.keep (Nat.le_refl _) HB7.out)
        clear HW HRg6 HSs6 HB6 HX6 HD
        obtain ⟨w7, hw7⟩ : ∃ w7, w7 = wr := ⟨_, rfl⟩
        rw [← hw7] at HRg7 HSs7 HB7 HD7 ⊢
        clear hw7
        obtain ⟨base, hba1, hba2⟩ : ∃ base, base ≤ w7.heap.size ∧ w7.heap.size ≤ base := ⟨_, Nat.le_refl _, Nat.le_refl _⟩
        have HO0 : Hid (w7.ownsRow base 3 1 (.slice none 0 0) ([] : List Int).length (([] : List Int).map Iv)) := Lib.hid (World.ownsRow_nil _ _ _ _)
        go_wp2
        go_loopw [12, 13] (fun tv i wr => ∃ T : List Int, i = .int .i64 T.length ∧ T.length ≤ 12 ∧ Hid (wr.ownsRow base 3 1 tv T.length (T.map Iv)) ∧ Hid (Below w7.heap.size w7 wr)) (fun _ i _ => 12 - (intOf i).toNat)
        case atStart => exact ⟨[], rfl, by simp, HO0, Lib.hid (Below.refl _ _)⟩
        case round =>
          clear HO0
          obtain ⟨T, rfl, hT12, HO, HW⟩ := hrel
          have hsz7 := HW.out.size
          have hcase : (T.length < ys.length ∧ T.length < 12 ∧ 0 < g.length) ∨ (¬ T.length < ys.length) ∨ (T.length < ys.length ∧ ¬ T.length < 12) ∨ (T.length < ys.length ∧ T.length < 12 ∧ ¬ 0 < g.length) := by omega
          rcases hcase with ⟨h1, h2, h3⟩ | hstop
          · obtain ⟨bd, od, rfl, hbd, hcd⟩ := (HD7.out.keep (by have := HB7.out.size; omega) HW.out) (by omega)
            obtain ⟨e1, v1, v2⟩ := hcd T.length h1
            have HBa := Lib.hid (own_base HO.out)
            clear hcd
            generalize ys[T.length] = z at *
            go_wp2_with fail
            refine (cut_c z (g.length : Int) wr (by omega) (by omega) v1 v2).mono ?_
            rintro e wx ⟨r, hr, rfl, rfl⟩
            go_wp2_with (at_builtin; refine app_int _ rfl _ _ rfl base _ _ _ rfl (HO.out.alloc _) _ (r : Int) rfl (by rw [cell_of_row _ _ 0 _ _ _ (heap_alloc_new wr _)]; rfl) (by omega) (by simp; omega) ?_)
            intro v' w' hown hgrow
            have HO3 : Hid (w'.ownsRow base 3 1 v' (T ++ [(r : Int)]).length ((T ++ [(r : Int)]).map Iv)) := Lib.hid (by simpa using hown)
            have HW3 : Hid (Below w7.heap.size w7 w') := Lib.hid (HW.out.trans (((Below.refl w7.heap.size wr).alloc hsz7 _).grown hgrow (by simp; omega) (fun k hk => by have := HBa.out k hk; omega)))
            clear hown hgrow HBa HO HW e1
            go_wp2
            go_roundw
            case rel => exact ⟨T ++ [(r : Int)], by rw [List.length_append, List.length_singleton]; go_num, by rw [List.length_append, List.length_singleton]; omega, HO3, HW3⟩
            case measure => simp [intOf]; omega
          · obtain ⟨At, ct, rfl, hth⟩ := own_is HO.out
            have CC := Lib.hid (closed_ok HCl.out (c := c) (d := d) (k := ct) (HRg7.out.keep HW.out) (HSs7.out.keep HW.out) hth HV.out rfl HSL.out (by omega))
            have HRes : Hid (clsB g s T = true → 0 < ([] : List Int).length ∧ ([] : List Int).length ≤ T.length) := Lib.hid (fun h => by
              obtain ⟨q1, q2⟩ := HLs.out T ((cls_of HV.out HSL.out).1 h)
              exact ⟨List.length_pos_iff.2 q1, q2⟩)
            have HBx := Lib.hid (HB7.out.trans (HW.out.mono HB7.out.size))
            clear hth HO HD7
            generalize clsB g s T = cb at *
            generalize T.length = tl at *
            rcases cb with _ | _
            · rcases hstop with hs1 | ⟨hs1, hs2⟩ | ⟨hs1, hs2, hs3⟩
              all_goals
                go_wp2_with fail
                refine CC.out.mono ?_
                rintro e w9 ⟨rfl, hb9⟩
                have HBz := Lib.hid (HBx.out.trans (hb9.mono HBx.out.size))
                clear hb9
                go_wp2
                go_ret
                exact ⟨rfl, HBz.out⟩
            · exfalso
              have h1 := (HRes.out rfl).1
              simp at h1
  · have hcls : clsB g s F = true := (cls_of HV.out HSL.out).2 (HGc.out (List.length_pos_iff.1 hf0))
    have CC := Lib.hid (closed_ok HCl.out (c := c) (d := d) (k := cx) HRg5.out HSs5.out HX5.out HV.out rfl HSL.out (by omega))
    rw [hcls] at CC
    clear hcls
    go_wp2_with fail
    refine CC.out.mono ?_
    rintro e w6 ⟨rfl, hb6⟩
    have HRg6 := Lib.hid (HRg5.out.keep hb6)
    have HSs6 := Lib.hid (HSs5.out.keep hb6)
    have HB6 := Lib.hid (HB5.out.trans (hb6.mono HB5.out.size))
    have HX6 := Lib.hid (HX5.out.keep hb6)
    clear hb6 CC HRg5 HSs5 HB5 HX5
    go_wp2
    go_loopw [11] (fun i wr => ∃ m : Nat, i = .int .i64 m ∧ m ≤ F.length ∧ Hid (Below w6.heap.size w6 wr)) (fun i _ => F.length - (intOf i).toNat)
    case atStart => exact ⟨0, rfl, Nat.zero_le _, Lib.hid (Below.refl _ _)⟩
    case round =>
      obtain ⟨m, rfl, hm, HW⟩ := hrel
      by_cases hmt : m < F.length
      · obtain ⟨bx, ox, rfl, e1⟩ := (HX6.out.keep HW.out).iv hmt
        have hno : ¬ F[m] ∈ F.take m := fun h => by
          obtain ⟨j, hj, e⟩ := List.mem_iff_getElem.1 h
          rw [List.getElem_take] at e
          have hjm : j < m := by rw [List.length_take] at hj; omega
          exact List.pairwise_iff_getElem.1 HNd.out j m (by omega) hmt hjm e
        have hmc : (m : Int) ≤ (cx : Int) := by omega
        have htl : (F.take m).length = m := by rw [List.length_take]; omega
        have CH := Lib.hid (fun n => (has_c (some ⟨bx, ox, none⟩) cx (F.take m) F[m] (wr.drewN n) (by
          have h := (HX6.out.keep HW.out).drewN n
          rw [List.map_take]
          exact h.takeG m) (by omega)).mono fun e w' h => (⟨h.1, h.2.symm⟩ : e = .returned (.bool (decide (F[m] ∈ F.take m))) ∧ w' = wr.drewN n))
        rw [decide_eq_false hno, htl] at CH
        clear hno htl
        generalize F[m] = x at *
        go_wp2_with fail
        go_quiet (first | (go_at_call 19; exact Calls.quiet_of_same (CH.out _)))
        have HW2 := Lib.hid (below_drewN HW.out nq)
        clear CH e1
        go_wp2
        go_roundw
        case rel => exact ⟨m + 1, by go_num, by omega, HW2⟩
        case measure => simp [intOf]; omega
      · obtain rfl : m = F.length := by omega
        have HRg7 := Lib.hid (HRg6.out.keep HW.out)
        have HSs7 := Lib.hid (HSs6.out.keep HW.out)
        have HB7 := Lib.hid (HB6.out.trans (HW.out.mono HB6.out.size))
        have HD7 := Lib.hid (HD.out.keep (Nat.le_refl _) HB7.out)
        clear HW HRg6 HSs6 HB6 HX6 HD
        obtain ⟨w7, hw7⟩ : ∃ w7, w7 = wr := ⟨_, rfl⟩
        rw [← hw7] at HRg7 HSs7 HB7 HD7 ⊢
        clear hw7
        obtain ⟨base, hba1, hba2⟩ : ∃ base, base ≤ w7.heap.size ∧ w7.heap.size ≤ base := ⟨_, Nat.le_refl _, Nat.le_refl _⟩
        have HO0 : Hid (w7.ownsRow base 3 1 (.slice none 0 0) ([] : List Int).length (([] : List Int).map Iv)) := Lib.hid (World.ownsRow_nil _ _ _ _)
        go_wp2
        go_loopw [12, 13] (fun tv i wr => ∃ T : List Int, i = .int .i64 T.length ∧ T.length ≤ 12 ∧ Hid (wr.ownsRow base 3 1 tv T.length (T.map Iv)) ∧ Hid (Below w7.heap.size w7 wr)) (fun _ i _ => 12 - (intOf i).toNat)
        case atStart => exact ⟨[], rfl, by simp, HO0, Lib.hid (Below.refl _ _)⟩
        case round =>
          clear HO0
          obtain ⟨T, rfl, hT12, HO, HW⟩ := hrel
          have hsz7 := HW.out.size
          have hcase : (T.length < ys.length ∧ T.length < 12 ∧ 0 < g.length) ∨ (¬ T.length < ys.length) ∨ (T.length < ys.length ∧ ¬ T.length < 12) ∨ (T.length < ys.length ∧ T.length < 12 ∧ ¬ 0 < g.length) := by omega
          rcases hcase with ⟨h1, h2, h3⟩ | hstop
          · obtain ⟨bd, od, rfl, hbd, hcd⟩ := (HD7.out.keep (by have := HB7.out.size; omega) HW.out) (by omega)
            obtain ⟨e1, v1, v2⟩ := hcd T.length h1
            have HBa := Lib.hid (own_base HO.out)
            clear hcd
            generalize ys[T.length] = z at *
            go_wp2_with fail
            refine (cut_c z (g.length : Int) wr (by omega) (by omega) v1 v2).mono ?_
            rintro e wx ⟨r, hr, rfl, rfl⟩
            go_wp2_with (at_builtin; refine app_int _ rfl _ _ rfl base _ _ _ rfl (HO.out.alloc _) _ (r : Int) rfl (by rw [cell_of_row _ _ 0 _ _ _ (heap_alloc_new wr _)]; rfl) (by omega) (by simp; omega) ?_)
            intro v' w' hown hgrow
            have HO3 : Hid (w'.ownsRow base 3 1 v' (T ++ [(r : Int)]).length ((T ++ [(r : Int)]).map Iv)) := Lib.hid (by simpa using hown)
            have HW3 : Hid (Below w7.heap.size w7 w') := Lib.hid (HW.out.trans (((Below.refl w7.heap.size wr).alloc hsz7 _).grown hgrow (by simp; omega) (fun k hk => by have := HBa.out k hk; omega)))
            clear hown hgrow HBa HO HW e1
            go_wp2
            go_roundw
            case rel => exact ⟨T ++ [(r : Int)], by rw [List.length_append, List.length_singleton]; go_num, by rw [List.length_append, List.length_singleton]; omega, HO3, HW3⟩
            case measure => simp [intOf]; omega
          · obtain ⟨At, ct, rfl, hth⟩ := own_is HO.out
            have CC := Lib.hid (closed_ok HCl.out (c := c) (d := d) (k := ct) (HRg7.out.keep HW.out) (HSs7.out.keep HW.out) hth HV.out rfl HSL.out (by omega))
            have HRes : Hid (clsB g s T = true → 0 < F.length ∧ F.length ≤ T.length) := Lib.hid (fun h => by
              obtain ⟨q1, q2⟩ := HLs.out T ((cls_of HV.out HSL.out).1 h)
              exact ⟨List.length_pos_iff.2 q1, q2⟩)
            have HBx := Lib.hid (HB7.out.trans (HW.out.mono HB7.out.size))
            clear hth HO HD7
            generalize clsB g s T = cb at *
            generalize F.length = fl at *
            generalize T.length = tl at *
            rcases cb with _ | _
            · rcases hstop with hs1 | ⟨hs1, hs2⟩ | ⟨hs1, hs2, hs3⟩
              all_goals
                go_wp2_with fail
                refine CC.out.mono ?_
                rintro e w9 ⟨rfl, hb9⟩
                have HBz := Lib.hid (HBx.out.trans (hb9.mono HBx.out.size))
                clear hb9
                go_wp2
                go_ret
                exact ⟨rfl, HBz.out⟩
            · obtain ⟨q1, q2⟩ := HRes.out rfl
              have hd1 : decide ((0 : Int) < (fl : Int)) = true := by simp; omega
              have hd2 : decide ((fl : Int) ≤ (tl : Int)) = true := by simp; omega
              rcases hstop with hs1 | ⟨hs1, hs2⟩ | ⟨hs1, hs2, hs3⟩
              all_goals
                go_wp2_with fail
                refine CC.out.mono ?_
                rintro e w9 ⟨rfl, hb9⟩
                have HBz := Lib.hid (HBx.out.trans (hb9.mono HBx.out.size))
                clear hb9
                go_wp2
                go_ret
                exact ⟨rfl, HBz.out⟩
end Go.Proofs.Ytkgnblnhfjjjmaa
