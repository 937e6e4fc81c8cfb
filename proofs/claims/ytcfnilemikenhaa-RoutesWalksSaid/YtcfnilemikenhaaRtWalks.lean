/- RoutesWalks returns true, if routes' functions keep what RtBase asks. -/
import Derived.Test.YtcfnilemikenhaaRtBase
import Derived.Test.YtcfnilemikenhaaCgBase
namespace Go.Proofs.Ytcfnilemikenhaa
open Go Go.RowKit Fl

theorem dist_el {g : GraphD} {s : List Bool} {goal v : Nat} (hv : v < (distF g s goal).length) : (distF g s goal)[v] = dAt (distF g s goal) v := by
  unfold dAt
  rw [List.getD_eq_getElem?_getD, List.getElem?_eq_getElem hv]
  rfl
theorem dist_top {g : GraphD} {s : List Bool} {goal : Nat} (hg : validG g = true) (hgo : goal < g.length) (y : Nat) : dAt (distF g s goal) y ≤ 24 := by
  have hl := validG_len hg
  rcases hs : atB s goal with _ | _
  · have := ((distF_inv hg hgo hs).low y).2
    show (distF g s goal).getD y (-1) ≤ 24
    omega
  · show (distF g s goal).getD y (-1) ≤ 24
    rw [distF_shut hs, List.getD_eq_getElem?_getD, List.getElem?_replicate]
    split <;> simp
/-- The least length of a closed walk, over the first vertices of a row. -/
def walkK (sv : Bool) (row dist : List Int) : Nat → Int
  | 0 => 0
  | k + 1 => if sv = false ∧ 0 ≤ atI dist (row.getD k 0) ∧ (walkK sv row dist k = 0 ∨ atI dist (row.getD k 0) + 1 < walkK sv row dist k) then atI dist (row.getD k 0) + 1 else walkK sv row dist k
theorem walkK_shut (row dist : List Int) : ∀ k, walkK true row dist k = 0
  | 0 => rfl
  | k + 1 => by
    rw [walkK, if_neg (by simp)]
    exact walkK_shut row dist k
theorem walkK_best {g : GraphD} {v : Nat} {dist : List Int} (hg : validG g = true) (hv : v < g.length) : ∀ k, k ≤ (rowG g v).length → walkK false (rowG g v) dist k = if bestK (rowG g v) dist k < 0 then 0 else atI dist (bestK (rowG g v) dist k) + 1
  | 0, _ => rfl
  | k + 1, hk => by
    have ih := walkK_best (dist := dist) hg hv k (by omega)
    have hb := bestK_ok (dist := dist) hg hv k (by omega)
    have hx : 0 ≤ (rowG g v).getD k 0 := by
      rw [List.getD_eq_getElem?_getD, List.getElem?_eq_getElem (by omega)]
      exact (rowOk_row hg hv _ (List.getElem_mem _)).1
    have hbk : bestK (rowG g v) dist (k + 1) = if 0 ≤ atI dist ((rowG g v).getD k 0) ∧ (bestK (rowG g v) dist k < 0 ∨ atI dist ((rowG g v).getD k 0) < atI dist (bestK (rowG g v) dist k)) then (rowG g v).getD k 0 else bestK (rowG g v) dist k := rfl
    rw [walkK, hbk, ih]
    clear hbk
    generalize bestK (rowG g v) dist k = b at *
    generalize (rowG g v).getD k 0 = x at *
    by_cases hbn : b < 0
    · rw [if_pos hbn]
      by_cases h0 : 0 ≤ atI dist x
      · rw [if_pos ⟨rfl, h0, .inl rfl⟩, show (if 0 ≤ atI dist x ∧ (b < 0 ∨ atI dist x < atI dist b) then x else b) = x from if_pos ⟨h0, .inl hbn⟩, if_neg (by omega)]
      · rw [if_neg (fun h => h0 h.2.1), show (if 0 ≤ atI dist x ∧ (b < 0 ∨ atI dist x < atI dist b) then x else b) = b from if_neg (fun h => h0 h.1), if_pos hbn]
    · have hb2 : 0 ≤ atI dist b := by
        rcases hb with h | h
        · omega
        · exact h.2.2
      rw [if_neg hbn]
      by_cases h0 : 0 ≤ atI dist x ∧ atI dist x < atI dist b
      · rw [if_pos ⟨rfl, h0.1, .inr (by omega)⟩, show (if 0 ≤ atI dist x ∧ (b < 0 ∨ atI dist x < atI dist b) then x else b) = x from if_pos ⟨h0.1, .inr h0.2⟩, if_neg (by omega)]
      · rw [if_neg (fun h => h0 ⟨h.2.1, by rcases h.2.2 with h | h <;> omega⟩), show (if 0 ≤ atI dist x ∧ (b < 0 ∨ atI dist x < atI dist b) then x else b) = b from if_neg (fun h => h0 ⟨h.1, by rcases h.2 with h | h <;> omega⟩), if_neg hbn]
theorem thr_len {g : GraphD} {s : List Bool} {v : Nat} (hg : validG g = true) (hv : v < g.length) : ((thrF g s v).length : Int) = walkK (atB s v) (rowG g v) (distF g s v) (rowG g v).length := by
  unfold thrF
  rcases hs : atB s v with _ | _
  · rw [walkK_best hg hv _ (Nat.le_refl _)]
    simp only [Bool.false_eq_true, if_false]
    have hb := bestK_ok (dist := distF g s v) hg hv _ (Nat.le_refl _)
    generalize bestK (rowG g v) (distF g s v) (rowG g v).length = b at *
    by_cases hbn : b < 0
    · rw [if_pos hbn, if_pos hbn]; rfl
    · rw [if_neg hbn, if_neg hbn]
      have hb2 : 0 ≤ atI (distF g s v) b := by
        rcases hb with h | h
        · omega
        · exact h.2.2
      unfold firstF
      have e : (distF g s v).getD b.toNat (-1) = atI (distF g s v) b := rfl
      rw [e, if_neg (by omega), List.length_cons, List.length_dropLast, pathF_length]
      omega
  · rw [walkK_shut]
    rfl
set_option maxRecDepth 100000 in
set_option maxHeartbeats 8000000 in
theorem routesWalks_c (hD : DevDist) (hH : DevHops) (hP : DevPath) (hT : DevTable) (hG : DevThrough) (C : Option Addr) (k : Nat) (zs : List Int) (w : World) (hz : IntsAt w w.heap.size C zs) (hzl : zs.length ≤ maxLen) :
    Calls Try.prog 7 #[.slice C zs.length k] w fun e w' => e = .returned (.bool true) ∧ Below w.heap.size w w' := by
  have CK := Lib.hid (known7_c hD hH hP hT w)
  have HDi := Lib.hid hD
  have HHo := Lib.hid hH
  have HPa := Lib.hid hP
  have HTh := Lib.hid hG
  have HZ := Lib.hid hz
  have HL := Lib.hid hzl
  clear hD hH hP hT hG hz hzl
  go_enter Try.func7, Try.ntmps7
  go_wp2_with fail
  refine CK.out.mono ?_
  rintro e w1 ⟨rfl, hb1⟩
  have ht := tape_new (c := k) HZ.out (Nat.le_refl _) hb1 HL.out
  have hb2 : Below w.heap.size w (w1.alloc (.cells #[.slice C zs.length k, .int .i64 0] 29)) := hb1.alloc hb1.size _
  have HT2 := Lib.hid ht
  have hgB : w.heap.size ≤ w1.heap.size := hb1.size
  have HB2 := Lib.hid hb2
  have hsz2 : w1.heap.size < (w1.alloc (.cells #[.slice C zs.length k, .int .i64 0] 29)).heap.size := by simp
  clear hb1 ht hb2 CK HZ HL
  go_wp2_with fail
  refine (graph_c w.heap.size w1.heap.size _ 9 _ HT2.out (by omega) (by omega) hsz2).mono ?_
  rintro e w3 ⟨gv, g, rfl, hgl, hok, hown3, ht3, hst3⟩
  obtain ⟨A, c, rfl, _⟩ := hown3.at_
  have HV := Lib.hid (hok.valid (by omega))
  have HT3 := Lib.hid ht3
  have HO3 := Lib.hid hown3
  have HB3 := Lib.hid (HB2.out.trans (hst3.below HB2.out.size hgB))
  have hsz3 := Nat.lt_of_lt_of_le hsz2 hst3.size
  generalize w1.alloc (.cells #[.slice C zs.length k, .int .i64 0] 29) = w2 at *
  clear hok ht3 hown3 hst3 HT2 HB2
  go_wp2_with fail
  refine (shut_c w.heap.size w1.heap.size _ g.length w3 HT3.out (by omega) (by omega) hsz3).mono ?_
  rintro e w4 ⟨sv, s, rfl, hsl4, hos4, ht4, hst4⟩
  obtain ⟨B, d, rfl, hs4⟩ := own_is hos4
  have HSL := Lib.hid hsl4
  have HT4 := Lib.hid ht4
  have HO4 := Lib.hid (HO3.out.but hst4.grown hsz2)
  have HS4 := Lib.hid hos4
  have HB4 := Lib.hid (HB3.out.trans (hst4.below HB3.out.size hgB))
  have hsz4 := Nat.lt_of_lt_of_le hsz3 hst4.size
  clear HT3 HO3 HB3 hsl4 ht4 hos4 hs4 hst4
  have HRg : Hid (RowsAt w4 A g) := Lib.hid (by
    obtain ⟨A2, c2, h1, h2⟩ := HO4.out.at_
    injection h1 with h1
    subst h1
    exact h2)
  have HSs : Hid (Holds w4 B (s.map Bo)) := Lib.hid (by
    obtain ⟨A2, c2, h1, h2⟩ := own_is HS4.out
    injection h1 with h1
    subst h1
    exact h2)
  clear HHo HPa HT4 HO4 HS4 hgB hsz4
  go_wp2
  go_loopw [6] (fun i wr => ∃ u : Nat, i = .int .i64 u ∧ u ≤ g.length ∧ Hid (Below w4.heap.size w4 wr)) (fun i _ => g.length - (intOf i).toNat)
  case atStart => exact ⟨0, rfl, Nat.zero_le _, Lib.hid (Below.refl _ _)⟩
  case round =>
    obtain ⟨u, rfl, hu, HW⟩ := hrel
    by_cases hlt : u < g.length
    · go_wp2_with fail
      refine (through_ok HTh.out (v := u) (HRg.out.keep HW.out) (HSs.out.keep HW.out) HV.out rfl HSL.out hlt).mono ?_
      rintro e w8 ⟨Y, cy, _, rfl, _, hb8⟩
      have HW8 := Lib.hid (HW.out.trans (hb8.mono HW.out.size))
      have HLen := Lib.hid (thr_len (s := s) HV.out hlt)
      clear hb8 HW
      generalize (thrF g s u).length = n at *
      go_wp2_with fail
      refine (dist_ok HDi.out (v := u) (HRg.out.keep HW8.out) (HSs.out.keep HW8.out) HV.out rfl HSL.out hlt).mono ?_
      rintro e w9 ⟨X, cx, rfl, hx9, hb9⟩
      have HW9 := Lib.hid (HW8.out.trans (hb9.mono HW8.out.size))
      have HX9 := Lib.hid hx9
      have HTop := Lib.hid (fun y => dist_top (s := s) HV.out hlt y)
      have hrow : rowG g u = g[u] := rowG_at hlt
      have HRk := Lib.hid (rowOk_row HV.out hlt)
      have hr24 : g[u].length ≤ 24 := by have := validG_short HV.out _ (List.getElem_mem hlt); exact this
      have HRg9 := Lib.hid (HRg.out.keep HW9.out)
      have HSs9 := Lib.hid (HSs.out.keep HW9.out)
      have HRr : Hid (∀ W, Below w9.heap.size w9 W → ∃ b o A1 c1, A = some ⟨b, o, none⟩ ∧ W.cell? ⟨b, o + u, none⟩ = some (.slice A1 g[u].length c1) ∧ Holds W A1 (g[u].map Iv)) := Lib.hid (fun W hW => (HRg9.out.keep hW).one hlt)
      rw [hrow] at HRk HLen
      have hDl := distF_length g s u
      clear hb9 hx9 hrow HW8 HRg9
      generalize hgr : g[u] = r at *
      clear hgr
      obtain ⟨Dl, HDl⟩ : ∃ Dl, Hid (Dl = distF g s u) := ⟨_, Lib.hid rfl⟩
      rw [← HDl.out] at HX9 HTop HLen hDl
      clear HDl
      go_wp2
      go_loopw [12, 13] (fun bv i wr => ∃ m : Nat, bv = .int .i64 (walkK (atB s u) r Dl m) ∧ i = .int .i64 m ∧ m ≤ r.length ∧ Hid (Below w9.heap.size w9 wr)) (fun _ i _ => r.length - (intOf i).toNat)
      case atStart => exact ⟨0, rfl, rfl, Nat.zero_le _, Lib.hid (Below.refl _ _)⟩
      case round =>
        obtain ⟨m, rfl, rfl, hm, HWi⟩ := hrel
        obtain ⟨bq, oq, A1, c1, rfl, e4, h4⟩ := HRr.out _ HWi.out
        by_cases hmt : m < r.length
        · obtain ⟨h1, h2, _⟩ := HRk.out r[m] (List.getElem_mem hmt)
          obtain ⟨y, hy⟩ := Int.eq_ofNat_of_zero_le h1
          rw [hy] at h2
          have hyl : y < Dl.length := by omega
          obtain ⟨br, or_, rfl, e5⟩ := h4.iv hmt
          rw [hy] at e5
          obtain ⟨bx, ox, rfl, e6⟩ := (HX9.out.keep HWi.out).iv hyl
          obtain ⟨bs, os, rfl, e7⟩ := marks_at (HSs9.out.keep HWi.out) (show u < s.length by have := HSL.out; omega)
          have hat : atI Dl (r.getD m 0) = Dl[y] := by
            rw [List.getD_eq_getElem?_getD, List.getElem?_eq_getElem hmt]
            show atI Dl r[m] = Dl[y]
            rw [hy]
            unfold atI
            rw [Int.toNat_natCast, List.getD_eq_getElem?_getD, List.getElem?_eq_getElem hyl]
            rfl
          have hx24 : Dl[y] ≤ 24 := by
            have := HTop.out y
            unfold dAt at this
            rw [List.getD_eq_getElem?_getD, List.getElem?_eq_getElem hyl] at this
            exact this
          have HStep : Hid (walkK (atB s u) r Dl (m + 1) = if atB s u = false ∧ 0 ≤ Dl[y] ∧ (walkK (atB s u) r Dl m = 0 ∨ Dl[y] + 1 < walkK (atB s u) r Dl m) then Dl[y] + 1 else walkK (atB s u) r Dl m) := Lib.hid (by rw [walkK, hat])
          have HNx : Hid (∃ z, z = walkK (atB s u) r Dl (m + 1)) := Lib.hid ⟨_, rfl⟩
          obtain ⟨nx, hnx⟩ := HNx.out
          rw [← hnx] at HStep
          have HNx2 := Lib.hid hnx
          clear HNx hnx hat h1 h4
          generalize walkK (atB s u) r Dl m = bst at *
          generalize Dl[y] = x at *
          generalize atB s u = sv at *
          have hcase : (sv = true ∧ nx = bst) ∨ (sv = false ∧ decide (0 ≤ x) = false ∧ nx = bst) ∨ (sv = false ∧ 0 ≤ x ∧ (bst == 0) = true ∧ nx = x + 1) ∨ (sv = false ∧ 0 ≤ x ∧ (bst == 0) = false ∧ x + 1 < bst ∧ nx = x + 1) ∨ (sv = false ∧ 0 ≤ x ∧ (bst == 0) = false ∧ ¬ x + 1 < bst ∧ nx = bst) := by
            simp only [decide_eq_false_iff_not, beq_iff_eq, beq_eq_false_iff_ne]
            have hst := HStep.out
            rcases sv with _ | _
            · right
              by_cases h0 : 0 ≤ x
              · by_cases hb0 : bst = 0
                · rw [if_pos ⟨rfl, h0, .inl hb0⟩] at hst
                  exact .inr (.inl ⟨rfl, h0, hb0, hst⟩)
                · by_cases hlt2 : x + 1 < bst
                  · rw [if_pos ⟨rfl, h0, .inr hlt2⟩] at hst
                    exact .inr (.inr (.inl ⟨rfl, h0, hb0, hlt2, hst⟩))
                  · rw [if_neg (fun h => by rcases h.2.2 with h | h <;> contradiction)] at hst
                    exact .inr (.inr (.inr ⟨rfl, h0, hb0, hlt2, hst⟩))
              · rw [if_neg (fun h => h0 h.2.1)] at hst
                exact .inl ⟨rfl, h0, hst⟩
            · rw [if_neg (fun h => by cases h.1)] at hst
              exact .inl ⟨rfl, hst⟩
          clear HStep
          rcases hcase with ⟨rfl, rfl⟩ | ⟨rfl, h1, rfl⟩ | ⟨rfl, h1, h2', h3⟩ | ⟨rfl, h1, h2', h3, h4⟩ | ⟨rfl, h1, h2', h3, h4⟩
          · go_wp2
            go_roundw
            case rel => exact ⟨m + 1, by rw [← HNx2.out], by go_num, by omega, HWi⟩
            case measure => simp [intOf]; omega
          · go_wp2
            go_roundw
            case rel => exact ⟨m + 1, by rw [← HNx2.out], by go_num, by omega, HWi⟩
            case measure => simp [intOf]; omega
          all_goals
            obtain ⟨xn, rfl⟩ := Int.eq_ofNat_of_zero_le h1
            go_wp2
            go_roundw
            case rel => exact ⟨m + 1, by rw [← HNx2.out]; go_num, by go_num, by omega, HWi⟩
            case measure => simp [intOf]; omega
        · obtain rfl : m = r.length := by omega
          have hq : ((n : Int) != walkK (atB s u) r Dl r.length) = false := by rw [HLen.out]; simp
          have HWn := Lib.hid (HW9.out.trans (HWi.out.mono HW9.out.size))
          clear HLen h4 HWi
          generalize walkK (atB s u) r Dl r.length = bst at *
          go_wp2
          go_roundw
          case rel => exact ⟨u + 1, by go_num, by omega, HWn⟩
          case measure => simp [intOf]; omega
    · go_wp2
      go_ret
      exact ⟨rfl, HB4.out.trans (HW.out.mono HB4.out.size)⟩
end Go.Proofs.Ytcfnilemikenhaa
