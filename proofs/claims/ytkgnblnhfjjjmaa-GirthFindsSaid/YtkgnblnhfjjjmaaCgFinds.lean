/- GirthFinds returns true, if girth's and components' functions keep what CgBase and ChBase ask. -/
import Derived.Test.YtkgnblnhfjjjmaaCgKnown
import Derived.Test.YtkgnblnhfjjjmaaCgFacts
import Derived.Test.YtkgnblnhfjjjmaaGsCls
import Derived.Test.YtkgnblnhfjjjmaaTpArg
namespace Go.Proofs.Ytkgnblnhfjjjmaa
open Go Go.RowKit Fl

theorem girL_len (g : GraphD) (s : List Bool) : (girL g s).length ≤ 1000000000000000000 := by
  unfold girL
  split
  · rename_i h
    rcases chkG_cases g s.length with h1 | h1 | h1
    · have := girK_short (s := s) h1.2.1 g.length (Nat.le_refl _)
      have h2 : (girF g s).length ≤ 25 := this
      omega
    · omega
    · omega
  · simp
theorem thrL_len (g : GraphD) (s : List Bool) (v : Int) : (thrL g s v).length ≤ 1000000000000000000 := by
  unfold thrL
  split
  · rename_i h
    by_cases h0 : chkG g s.length = 0
    · by_cases hin : 0 ≤ v ∧ v < g.length
      · rcases chkG_cases g s.length with h1 | h1 | h1
        · have := thrF_short (s := s) (v := v.toNat) h1.2.1 (by omega)
          omega
        · omega
        · omega
      · exfalso
        unfold fromE at h
        rw [if_pos h0, if_neg hin] at h
        cases h
    · exfalso
      unfold fromE at h
      rw [if_neg h0] at h
      exact h0 h
  · simp
/-- What the loop holds: a graph, marks, a walk and a vertex. -/
def Finds6 (w : World) (raw cl wk v : Value) : Prop := ∃ (A B W : Option Addr) (c d k : Nat) (g : GraphD) (s : List Bool) (l : List Int) (x : Int), raw = .slice A g.length c ∧ cl = .slice B s.length d ∧ wk = .slice W l.length k ∧ v = .int .i64 x ∧ RowsAt w A g ∧ Holds w B (s.map Bo) ∧ Holds w W (l.map Iv) ∧ Sized g ∧ l.length ≤ 1000000000000000000
theorem Finds6.keep {w w' : World} {raw cl wk v : Value} (h : Finds6 w raw cl wk v) (hb : Below w.heap.size w w') : Finds6 w' raw cl wk v := by
  obtain ⟨A, B, W, c, d, k, g, s, l, x, h1, h2, h3, h4, h5, h6, h7, h8⟩ := h
  exact ⟨A, B, W, c, d, k, g, s, l, x, h1, h2, h3, h4, h5.keep hb, h6.keep hb, h7.keep hb, h8⟩
set_option maxRecDepth 100000 in
set_option maxHeartbeats 8000000 in
theorem girthFinds_c (hG : DevGirth) (hT : DevThrough) (hC : DevClosed) (A B W C : Option Addr) (c d kw k : Nat) (g : GraphD) (s : List Bool) (l : List Int) (v : Int) (zs : List Int) (w : World) (hg : RowsAt w A g) (hs : Holds w B (s.map Bo)) (hw : Holds w W (l.map Iv)) (hz : IntsAt w w.heap.size C zs) (hzl : zs.length ≤ maxLen) (hsz : Sized g) (hll : l.length ≤ 1000000000000000000) :
    Calls Try.prog 3 #[.slice A g.length c, .slice B s.length d, .slice W l.length kw, .int .i64 v, .slice C zs.length k] w fun e w' => e = .returned (.bool true) ∧ Below w.heap.size w w' := by
  have CK := Lib.hid (known6_c hG hT hC w)
  have HGi := Lib.hid hG
  have HTh := Lib.hid hT
  have HCl := Lib.hid hC
  have H0 : Hid (Finds6 w (.slice A g.length c) (.slice B s.length d) (.slice W l.length kw) (.int .i64 v)) := Lib.hid ⟨A, B, W, c, d, kw, g, s, l, v, rfl, rfl, rfl, rfl, hg, hs, hw, hsz, hll⟩
  have HZ := Lib.hid hz
  have HL := Lib.hid hzl
  clear hG hT hC hg hs hw hz hzl hsz hll
  go_enter Try.func3, Try.ntmps3
  go_wp2_with fail
  refine CK.out.mono ?_
  rintro e w1 ⟨rfl, hb1⟩
  have ht := tape_new (c := k) HZ.out (Nat.le_refl _) hb1 HL.out
  have hb2 : Below w.heap.size w (w1.alloc (.cells #[.slice C zs.length k, .int .i64 0] 28)) := hb1.alloc hb1.size _
  have HT2 := Lib.hid ht
  have H2 := Lib.hid (H0.out.keep hb2)
  have hgB : w.heap.size ≤ w1.heap.size := hb1.size
  have HB2 := Lib.hid hb2
  have hsz2 : w1.heap.size < (w1.alloc (.cells #[.slice C zs.length k, .int .i64 0] 28)).heap.size := by simp
  clear hb1 ht hb2 H0 CK HZ HL
  go_wp2
  go_loopw [0, 1, 2, 3, 12] (fun raw cl wk vv i wr => ∃ n : Nat, i = .int .i64 n ∧ n ≤ 2 ∧ Hid (Finds6 wr raw cl wk vv) ∧ Hid (TapeOk wr w.heap.size w1.heap.size (5000 * n)) ∧ Hid (Below w.heap.size w wr) ∧ w1.heap.size < wr.heap.size) (fun _ _ _ _ i _ => 2 - (intOf i).toNat)
  case atStart => exact ⟨0, rfl, by omega, H2, HT2, HB2, hsz2⟩
  case round =>
    clear HT2 H2 HB2 hsz2
    obtain ⟨n, rfl, hn, HFi, HT, HB, hsz⟩ := hrel
    have hcase : n = 0 ∨ n = 1 ∨ n = 2 := by omega
    clear hn
    rcases hcase with rfl | rfl | rfl
    · obtain ⟨A', B', W', c', d', k', g', s', l', x', rfl, rfl, rfl, rfl, hg', hs', hw', hz', hll'⟩ := HFi.out
      clear HFi
      have HRg := Lib.hid hg'
      have HSs := Lib.hid hs'
      have HWl := Lib.hid hw'
      have HZ := Lib.hid hz'
      clear hg' hs' hw' hz'
      have HRg0 := HRg
      have HSs0 := HSs
      have HWl0 := HWl
      have HT0 := HT
      have HB0 := HB
      have hsz0 := hsz
      clear HRg HSs HWl HT HB hsz
      go_wp2_with fail
      refine (HGi.out A' B' c' d' g' s' _ HRg0.out HSs0.out HZ.out).mono ?_
      rintro e v1 ⟨Q1, q1, _, rfl, hr, hb⟩
      have HRg1 := Lib.hid (HRg0.out.keep hb)
      have HSs1 := Lib.hid (HSs0.out.keep hb)
      have HWl1 := Lib.hid (HWl0.out.keep hb)
      have HT1 := Lib.hid (HT0.out.keep hb)
      have HB1 := Lib.hid (HB0.out.trans (hb.mono HB0.out.size))
      have hsz1 := Nat.lt_of_lt_of_le hsz0 hb.size
      have HV1_1 := Lib.hid hr
      clear HRg0 HSs0 HWl0 HT0 HB0 hsz0 hr hb
      go_wp2_with fail
      refine (refGirth_c A' B' c' d' g' s' _ HRg1.out HSs1.out HZ.out.1 HZ.out.2).mono ?_
      rintro e v2 hp
      obtain ⟨Q2, q2, _, rfl, hr, hb⟩ := hp.res
      clear hp
      have HRg2 := Lib.hid (HRg1.out.keep hb)
      have HSs2 := Lib.hid (HSs1.out.keep hb)
      have HWl2 := Lib.hid (HWl1.out.keep hb)
      have HT2 := Lib.hid (HT1.out.keep hb)
      have HB2 := Lib.hid (HB1.out.trans (hb.mono HB1.out.size))
      have hsz2 := Nat.lt_of_lt_of_le hsz1 hb.size
      have HV1_2 := Lib.hid (HV1_1.out.keep hb)
      have HV2_2 := Lib.hid hr
      clear HRg1 HSs1 HWl1 HT1 HB1 hsz1 hr hb HV1_1
      go_wp2_with fail
      refine (HTh.out A' B' c' d' g' s' x' _ HRg2.out HSs2.out HZ.out).mono ?_
      rintro e v3 ⟨Q3, q3, _, rfl, hr, hb⟩
      have HRg3 := Lib.hid (HRg2.out.keep hb)
      have HSs3 := Lib.hid (HSs2.out.keep hb)
      have HWl3 := Lib.hid (HWl2.out.keep hb)
      have HT3 := Lib.hid (HT2.out.keep hb)
      have HB3 := Lib.hid (HB2.out.trans (hb.mono HB2.out.size))
      have hsz3 := Nat.lt_of_lt_of_le hsz2 hb.size
      have HV1_3 := Lib.hid (HV1_2.out.keep hb)
      have HV2_3 := Lib.hid (HV2_2.out.keep hb)
      have HV3_3 := Lib.hid hr
      clear HRg2 HSs2 HWl2 HT2 HB2 hsz2 hr hb HV1_2 HV2_2
      go_wp2_with fail
      refine (refThrough_c A' B' c' d' g' s' x' _ HRg3.out HSs3.out HZ.out.1 HZ.out.2).mono ?_
      rintro e v4 hp
      obtain ⟨Q4, q4, _, rfl, hr, hb⟩ := hp.res
      clear hp
      have HRg4 := Lib.hid (HRg3.out.keep hb)
      have HSs4 := Lib.hid (HSs3.out.keep hb)
      have HWl4 := Lib.hid (HWl3.out.keep hb)
      have HT4 := Lib.hid (HT3.out.keep hb)
      have HB4 := Lib.hid (HB3.out.trans (hb.mono HB3.out.size))
      have hsz4 := Nat.lt_of_lt_of_le hsz3 hb.size
      have HV1_4 := Lib.hid (HV1_3.out.keep hb)
      have HV2_4 := Lib.hid (HV2_3.out.keep hb)
      have HV3_4 := Lib.hid (HV3_3.out.keep hb)
      have HV4_4 := Lib.hid hr
      clear HRg3 HSs3 HWl3 HT3 HB3 hsz3 hr hb HV1_3 HV2_3 HV3_3
      have hq1 : (((girL g' s').length : Int) != ((girL g' s').length : Int)) = false := by simp
      have hq2 : (chkG g' s'.length != chkG g' s'.length) = false := by simp
      have hq3 : (((thrL g' s' x').length : Int) != ((thrL g' s' x').length : Int)) = false := by simp
      have hq4 : (fromE g' s'.length x' != fromE g' s'.length x') = false := by simp
      have hq5 : (clsB g' s' l' != clsB g' s' l') = false := by simp
      have HL1 := Lib.hid (girL_len g' s')
      have HL2 := Lib.hid (thrL_len g' s' x')
      go_wp2_with fail
      refine (sameIntsE_c Q1 Q2 q1 q2 (girL g' s') _ HV1_4.out HV2_4.out HL1.out).mono ?_
      rintro e v5 ⟨rfl, n1, rfl⟩
      go_wp2_with fail
      refine (sameIntsE_c Q3 Q4 q3 q4 (thrL g' s' x') _ (HV3_4.out.drewN n1) (HV4_4.out.drewN n1) HL2.out).mono ?_
      rintro e v6 ⟨rfl, n2, rfl⟩
      have hb7 := below_drewN (Below.refl v4.heap.size v4) (n1 + n2)
      go_wp2_with fail
      refine (HCl.out A' B' W' c' d' k' g' s' l' _ (HRg4.out.keep hb7) (HSs4.out.keep hb7) (HWl4.out.keep hb7) HZ.out hll').mono ?_
      rintro e v8 ⟨rfl, hb8⟩
      have hb9 := hb7.trans (hb8.mono hb7.size)
      go_wp2_with fail
      refine (refClosed_c A' B' W' c' d' k' g' s' l' _ (HRg4.out.keep hb9) (HSs4.out.keep hb9) (HWl4.out.keep hb9) HZ.out.1 HZ.out.2 hll').mono ?_
      rintro e v9 ⟨rfl, hb10⟩
      have hb11 := hb9.trans (hb10.mono hb9.size)
      have HF9 : Hid (Finds6 v9 (.slice A' g'.length c') (.slice B' s'.length d') (.slice W' l'.length k') (.int .i64 x')) := Lib.hid ⟨A', B', W', c', d', k', g', s', l', x', rfl, rfl, rfl, rfl, HRg4.out.keep hb11, HSs4.out.keep hb11, HWl4.out.keep hb11, HZ.out, hll'⟩
      have HT9 := Lib.hid ((HT4.out.keep hb11).more (show _ ≤ 5000 * 1 by omega))
      have HB9 := Lib.hid (HB4.out.trans (hb11.mono HB4.out.size))
      have hsz9 := Nat.lt_of_lt_of_le hsz4 hb11.size
      clear HRg4 HSs4 HWl4 HT4 HB4 HV1_4 HV2_4 HV3_4 HV4_4 hsz4 HL1 HL2 hb7 hb8 hb9 hb10 hb11
      go_wp2
      go_roundw
      case rel => exact ⟨0 + 1, by go_num, by omega, HF9, HT9, HB9, hsz9⟩
      case measure => simp [intOf]
    · clear HFi
      go_wp2_with fail
      refine (graph_c w.heap.size w1.heap.size _ 9 wr HT.out (by omega) (by omega) hsz).mono ?_
      rintro e w3 ⟨gv, g', rfl, hg10, hok, hown3, ht3, hst3⟩
      obtain ⟨A', c', rfl, _⟩ := hown3.at_
      have hv' := hok.valid (by omega)
      have HT3 := Lib.hid ht3
      have HO3 := Lib.hid hown3
      have HB3 := Lib.hid (HB.out.trans (hst3.below HB.out.size hgB))
      have hsz3 := Nat.lt_of_lt_of_le hsz hst3.size
      clear hok ht3 hown3 hst3 HT HB
      go_wp2_with fail
      refine (shut_c w.heap.size w1.heap.size _ g'.length w3 HT3.out (by omega) (by omega) hsz3).mono ?_
      rintro e w4 ⟨sv, s', rfl, hsl4, hos4, ht4, hst4⟩
      obtain ⟨B', d', rfl⟩ : ∃ B' d', sv = .slice B' s'.length d' := by
        obtain ⟨B1, d1, h, _⟩ := own_is hos4
        exact ⟨B1, d1, by rw [hsl4]; exact h⟩
      clear hsl4
      have HT4 := Lib.hid ht4
      have HO4 := Lib.hid (HO3.out.but hst4.grown hsz)
      have HS4 := Lib.hid hos4
      have HB4 := Lib.hid (HB3.out.trans (hst4.below HB3.out.size hgB))
      have hsz4 := Nat.lt_of_lt_of_le hsz3 hst4.size
      clear HT3 HO3 HB3 ht4 hos4 hst4
      have CN : Hid (∀ (T : Nat) (W : World), T ≤ 100000 → TapeOk W w.heap.size w1.heap.size T → Calls Try.prog 11 #[.pointer (some ⟨w1.heap.size, 0, none⟩), .int .i64 g'.length] W fun e w' => ∃ r : Nat, e = .returned (.int .i64 r) ∧ TapeOk w' w.heap.size w1.heap.size (T + 1) ∧ W.grownBy w' (some w1.heap.size)) := Lib.hid (fun T W hT hTp => by
        rcases Nat.eq_zero_or_pos g'.length with h0 | h0
        · exact (next0_c _ _ _ _ W hTp (by omega) (by omega) (by omega)).mono fun e w' ⟨r, _, h⟩ => ⟨r, h⟩
        · exact (next_c _ _ _ _ W hTp (by omega) (by omega) (by omega)).mono fun e w' ⟨r, _, h⟩ => ⟨r, h⟩)
      go_wp2_with fail
      refine (CN.out _ w4 (by omega) HT4.out).mono ?_
      rintro e w5 ⟨x0, rfl, ht5, hg5⟩
      have hst5 : Still w1.heap.size w4.heap.size w4 w5 := Still.of_grown hg5 (Nat.le_refl _)
      have HT5 := Lib.hid ht5
      have HO5 := Lib.hid (HO4.out.but hg5 hsz)
      have HS5 := Lib.hid (own_but HS4.out hg5 hsz3)
      have HB5 := Lib.hid (HB4.out.trans (hst5.below HB4.out.size hgB))
      have hsz5 := Nat.lt_of_lt_of_le hsz4 hg5.size
      clear HT4 HO4 HS4 HB4 ht5 hg5 hst5
      go_wp2_with fail
      refine (next_c w.heap.size w1.heap.size _ 5 w5 HT5.out (by omega) (by omega) (by omega)).mono ?_
      rintro e w6 ⟨kk, hkk, rfl, ht6, hg6⟩
      have hst6 : Still w1.heap.size w5.heap.size w5 w6 := Still.of_grown hg6 (Nat.le_refl _)
      have HRg6 : Hid (RowsAt w6 A' g') := Lib.hid (by
        obtain ⟨A2, c2, h1, h2⟩ := (HO5.out.but hg6 hsz).at_
        injection h1 with h1
        subst h1
        exact h2)
      have HSs6 : Hid (Holds w6 B' (s'.map Bo)) := Lib.hid (by
        obtain ⟨A2, c2, h1, h2⟩ := own_is (own_but HS5.out hg6 hsz3)
        injection h1 with h1
        subst h1
        exact h2)
      have HT6 := Lib.hid ht6
      have HB6 := Lib.hid (HB5.out.trans (hst6.below HB5.out.size hgB))
      have hsz6 := Nat.lt_of_lt_of_le hsz5 hg6.size
      have HO6 := Lib.hid (HO5.out.but hg6 hsz)
      have HS6 := Lib.hid (own_but HS5.out hg6 hsz3)
      clear HT5 HO5 HS5 HB5 ht6 hg6 hst6
      obtain ⟨base, hba1, hba2⟩ : ∃ base, base ≤ w6.heap.size ∧ w6.heap.size ≤ base := ⟨_, Nat.le_refl _, Nat.le_refl _⟩
      have HW0 : Hid (w6.ownsRow base 3 1 (.slice none 0 0) ([] : List Int).length (([] : List Int).map Iv)) := Lib.hid (World.ownsRow_nil _ _ _ _)
      have HStill0 : Hid (Still w1.heap.size w6.heap.size w6 w6) := Lib.hid (Still.refl _ _ _)
      go_wp2
      go_loopw [2, 13] (fun tv i wr => ∃ (T : List Int) (r : Nat), i = .int .i64 r ∧ T.length + r = kk ∧ Hid (wr.ownsRow base 3 1 tv T.length (T.map Iv)) ∧ Hid (Still w1.heap.size w6.heap.size w6 wr) ∧ Hid (TapeOk wr w.heap.size w1.heap.size (5000 * 1 + 1000 + 1000 + 2 + T.length))) (fun _ i _ => (intOf i).toNat)
      case atStart => exact ⟨[], kk, rfl, by simp, HW0, HStill0, HT6⟩
      case round =>
        clear HW0 HStill0 HT6
        obtain ⟨l', r, rfl, hTr, HWo, HSt, HTp⟩ := hrel
        have hwsz := HSt.out.size
        rcases r with _ | r
        · obtain ⟨W', k', rfl, hth⟩ := own_is HWo.out
          have hll' : l'.length ≤ 1000000000000000000 := by omega
          have HWl := Lib.hid hth
          have HRg : Hid (RowsAt wr A' g') := Lib.hid (by
            obtain ⟨A2, c2, h1, h2⟩ := (HO6.out.but (Still.grown HSt.out) hsz).at_
            injection h1 with h1
            subst h1
            exact h2)
          have HSs : Hid (Holds wr B' (s'.map Bo)) := Lib.hid (by
            obtain ⟨A2, c2, h1, h2⟩ := own_is (own_but HS6.out (Still.grown HSt.out) hsz3)
            injection h1 with h1
            subst h1
            exact h2)
          have HZ := Lib.hid (Sized.valid hv')
          have HT := HTp
          have HB := Lib.hid (HB6.out.trans (HSt.out.below HB6.out.size hgB))
          have hsz7 := Nat.lt_of_lt_of_le hsz6 hwsz
          obtain ⟨x', hx'⟩ : ∃ x' : Int, (x0 : Int) = x' := ⟨_, rfl⟩
          rw [hx'] at *
          clear hth HRg6 HSs6 HO6 HS6 HB6 hsz hsz3 hsz4 hsz5 hsz6 HSt HWo HTp hv' hg10 hx' CN hba1 hba2
          have hsz := hsz7
          clear hsz7
          have HRg0 := HRg
          have HSs0 := HSs
          have HWl0 := HWl
          have HT0 := HT
          have HB0 := HB
          have hsz0 := hsz
          clear HRg HSs HWl HT HB hsz
          go_wp2_with fail
          refine (HGi.out A' B' c' d' g' s' _ HRg0.out HSs0.out HZ.out).mono ?_
          rintro e v1 ⟨Q1, q1, _, rfl, hr, hb⟩
          have HRg1 := Lib.hid (HRg0.out.keep hb)
          have HSs1 := Lib.hid (HSs0.out.keep hb)
          have HWl1 := Lib.hid (HWl0.out.keep hb)
          have HT1 := Lib.hid (HT0.out.keep hb)
          have HB1 := Lib.hid (HB0.out.trans (hb.mono HB0.out.size))
          have hsz1 := Nat.lt_of_lt_of_le hsz0 hb.size
          have HV1_1 := Lib.hid hr
          clear HRg0 HSs0 HWl0 HT0 HB0 hsz0 hr hb
          go_wp2_with fail
          refine (refGirth_c A' B' c' d' g' s' _ HRg1.out HSs1.out HZ.out.1 HZ.out.2).mono ?_
          rintro e v2 hp
          obtain ⟨Q2, q2, _, rfl, hr, hb⟩ := hp.res
          clear hp
          have HRg2 := Lib.hid (HRg1.out.keep hb)
          have HSs2 := Lib.hid (HSs1.out.keep hb)
          have HWl2 := Lib.hid (HWl1.out.keep hb)
          have HT2 := Lib.hid (HT1.out.keep hb)
          have HB2 := Lib.hid (HB1.out.trans (hb.mono HB1.out.size))
          have hsz2 := Nat.lt_of_lt_of_le hsz1 hb.size
          have HV1_2 := Lib.hid (HV1_1.out.keep hb)
          have HV2_2 := Lib.hid hr
          clear HRg1 HSs1 HWl1 HT1 HB1 hsz1 hr hb HV1_1
          go_wp2_with fail
          refine (HTh.out A' B' c' d' g' s' x' _ HRg2.out HSs2.out HZ.out).mono ?_
          rintro e v3 ⟨Q3, q3, _, rfl, hr, hb⟩
          have HRg3 := Lib.hid (HRg2.out.keep hb)
          have HSs3 := Lib.hid (HSs2.out.keep hb)
          have HWl3 := Lib.hid (HWl2.out.keep hb)
          have HT3 := Lib.hid (HT2.out.keep hb)
          have HB3 := Lib.hid (HB2.out.trans (hb.mono HB2.out.size))
          have hsz3 := Nat.lt_of_lt_of_le hsz2 hb.size
          have HV1_3 := Lib.hid (HV1_2.out.keep hb)
          have HV2_3 := Lib.hid (HV2_2.out.keep hb)
          have HV3_3 := Lib.hid hr
          clear HRg2 HSs2 HWl2 HT2 HB2 hsz2 hr hb HV1_2 HV2_2
          go_wp2_with fail
          refine (refThrough_c A' B' c' d' g' s' x' _ HRg3.out HSs3.out HZ.out.1 HZ.out.2).mono ?_
          rintro e v4 hp
          obtain ⟨Q4, q4, _, rfl, hr, hb⟩ := hp.res
          clear hp
          have HRg4 := Lib.hid (HRg3.out.keep hb)
          have HSs4 := Lib.hid (HSs3.out.keep hb)
          have HWl4 := Lib.hid (HWl3.out.keep hb)
          have HT4 := Lib.hid (HT3.out.keep hb)
          have HB4 := Lib.hid (HB3.out.trans (hb.mono HB3.out.size))
          have hsz4 := Nat.lt_of_lt_of_le hsz3 hb.size
          have HV1_4 := Lib.hid (HV1_3.out.keep hb)
          have HV2_4 := Lib.hid (HV2_3.out.keep hb)
          have HV3_4 := Lib.hid (HV3_3.out.keep hb)
          have HV4_4 := Lib.hid hr
          clear HRg3 HSs3 HWl3 HT3 HB3 hsz3 hr hb HV1_3 HV2_3 HV3_3
          have hq1 : (((girL g' s').length : Int) != ((girL g' s').length : Int)) = false := by simp
          have hq2 : (chkG g' s'.length != chkG g' s'.length) = false := by simp
          have hq3 : (((thrL g' s' x').length : Int) != ((thrL g' s' x').length : Int)) = false := by simp
          have hq4 : (fromE g' s'.length x' != fromE g' s'.length x') = false := by simp
          have hq5 : (clsB g' s' l' != clsB g' s' l') = false := by simp
          have HL1 := Lib.hid (girL_len g' s')
          have HL2 := Lib.hid (thrL_len g' s' x')
          go_wp2_with fail
          refine (sameIntsE_c Q1 Q2 q1 q2 (girL g' s') _ HV1_4.out HV2_4.out HL1.out).mono ?_
          rintro e v5 ⟨rfl, n1, rfl⟩
          go_wp2_with fail
          refine (sameIntsE_c Q3 Q4 q3 q4 (thrL g' s' x') _ (HV3_4.out.drewN n1) (HV4_4.out.drewN n1) HL2.out).mono ?_
          rintro e v6 ⟨rfl, n2, rfl⟩
          have hb7 := below_drewN (Below.refl v4.heap.size v4) (n1 + n2)
          go_wp2_with fail
          refine (HCl.out A' B' W' c' d' k' g' s' l' _ (HRg4.out.keep hb7) (HSs4.out.keep hb7) (HWl4.out.keep hb7) HZ.out hll').mono ?_
          rintro e v8 ⟨rfl, hb8⟩
          have hb9 := hb7.trans (hb8.mono hb7.size)
          go_wp2_with fail
          refine (refClosed_c A' B' W' c' d' k' g' s' l' _ (HRg4.out.keep hb9) (HSs4.out.keep hb9) (HWl4.out.keep hb9) HZ.out.1 HZ.out.2 hll').mono ?_
          rintro e v9 ⟨rfl, hb10⟩
          have hb11 := hb9.trans (hb10.mono hb9.size)
          have HF9 : Hid (Finds6 v9 (.slice A' g'.length c') (.slice B' s'.length d') (.slice W' l'.length k') (.int .i64 x')) := Lib.hid ⟨A', B', W', c', d', k', g', s', l', x', rfl, rfl, rfl, rfl, HRg4.out.keep hb11, HSs4.out.keep hb11, HWl4.out.keep hb11, HZ.out, hll'⟩
          have HT9 := Lib.hid ((HT4.out.keep hb11).more (show _ ≤ 5000 * 2 by omega))
          have HB9 := Lib.hid (HB4.out.trans (hb11.mono HB4.out.size))
          have hsz9 := Nat.lt_of_lt_of_le hsz4 hb11.size
          clear HRg4 HSs4 HWl4 HT4 HB4 HV1_4 HV2_4 HV3_4 HV4_4 hsz4 HL1 HL2 hb7 hb8 hb9 hb10 hb11
          go_wp2
          go_roundw
          case rel => exact ⟨1 + 1, by go_num, by omega, HF9, HT9, HB9, hsz9⟩
          case measure => simp [intOf]
        · go_wp2_with fail
          refine (CN.out _ wr (by omega) HTp.out).mono ?_
          rintro e w7 ⟨z, rfl, ht7, hg7⟩
          have hst7 : Still w1.heap.size w6.heap.size wr w7 := Still.of_grown hg7 hwsz
          have HSt7 := Lib.hid (HSt.out.trans hst7)
          have HT7 := Lib.hid ht7
          have HO7 := Lib.hid (own_but HWo.out hg7 (show w1.heap.size < base by omega))
          have HBa := Lib.hid (own_base HO7.out)
          have hws7 := Nat.le_trans hwsz hg7.size
          clear HSt HTp HWo hst7 ht7 hg7
          go_wp2_with (at_builtin; refine app_int _ rfl _ _ rfl base _ _ _ rfl (HO7.out.alloc _) _ (z : Int) rfl (by rw [cell_of_row _ _ 0 _ _ _ (heap_alloc_new w7 _)]; rfl) (by omega) (by simp; omega) ?_)
          intro v' w' hown hgrow
          have HO8 : Hid (w'.ownsRow base 3 1 v' (l' ++ [(z : Int)]).length ((l' ++ [(z : Int)]).map Iv)) := Lib.hid (by simpa using hown)
          have HSt8 : Hid (Still w1.heap.size w6.heap.size w6 w') := Lib.hid (HSt7.out.trans (Still.of_below (((Below.refl w6.heap.size w7).alloc hws7 _).grown hgrow (by simp; omega) (fun k hk => by have := HBa.out k hk; omega))))
          have HT8 : Hid (TapeOk w' w.heap.size w1.heap.size (5000 * 1 + 1000 + 1000 + 2 + (l' ++ [(z : Int)]).length)) := Lib.hid (by
            refine (((HT7.out.keep (below_alloc _ _)).grown hgrow (fun h => by have := HBa.out _ h; omega) (fun k hk => by have := HBa.out k hk; omega))).more ?_
            rw [List.length_append, List.length_singleton]
            omega)
          clear hown hgrow HBa HO7 HSt7 HT7
          go_wp2
          go_roundw
          case rel => exact ⟨l' ++ [(z : Int)], r, by go_num, by rw [List.length_append, List.length_singleton]; omega, HO8, HSt8, HT8⟩
          case measure => simp [intOf]
    · clear HFi HT
      go_wp2
      go_ret
      exact ⟨rfl, HB.out⟩
end Go.Proofs.Ytkgnblnhfjjjmaa
