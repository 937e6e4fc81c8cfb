/- ComponentsFinds returns true, if components' and reach's functions keep what ChBase and RhDev ask. -/
import Derived.Test.YtcljmgchghjncaaChBase
namespace Go.Proofs.Ytcljmgchghjncaa
open Go Go.RowKit Fl

theorem runs_len {g : GraphD} {s : List Bool} {out res : List Int} (h : Runs g s out res) : out.length + leftN g out ≤ g.length → res.length ≤ g.length := by
  induction h with
  | stop _ => intro h; omega
  | step hb _ ih =>
    intro h
    refine ih ?_
    have := best_left hb
    rw [List.length_append, List.length_singleton]
    omega
theorem order_len (g : GraphD) (s : List Bool) : (orderL g s).length ≤ g.length := runs_len (orderL_runs g s) (by
  have h : leftN g [] ≤ g.length := by
    unfold leftN
    exact Nat.le_trans (List.length_filter_le _ _) (by simp)
  simpa using h)
theorem nmL_len {g : GraphD} (s : List Bool) (hz : Sized g) : (nmL g s).length ≤ 1000000000000000000 := by
  unfold nmL
  split
  · rw [namesL_length]; exact hz.1
  · simp
theorem ordL_len {g : GraphD} (s : List Bool) (hz : Sized g) : (ordL g s).length ≤ 1000000000000000000 := by
  unfold ordL
  split
  · exact Nat.le_trans (order_len g s) hz.1
  · simp
theorem quoL_sized {g : GraphD} (s : List Bool) (hz : Sized g) : Sized (quoL g s) := by
  unfold quoL
  split
  · refine ⟨by rw [quotL_length]; exact hz.1, fun r hr => ?_⟩
    obtain ⟨i, hi, rfl⟩ := List.mem_iff_getElem.1 hr
    rw [quotL_at]
    unfold quotRow
    rw [List.length_map]
    exact Nat.le_trans (List.length_filter_le _ _) (by simpa using hz.1)
  · exact ⟨by simp, by simp⟩
/-- What the loop holds: a graph and marks. -/
def Finds5 (w : World) (raw cl : Value) : Prop := ∃ (A B : Option Addr) (c d : Nat) (g : GraphD) (s : List Bool), raw = .slice A g.length c ∧ cl = .slice B s.length d ∧ RowsAt w A g ∧ Holds w B (s.map Bo) ∧ Sized g
theorem Finds5.keep {w w' : World} {raw cl : Value} (h : Finds5 w raw cl) (hb : Below w.heap.size w w') : Finds5 w' raw cl := by
  obtain ⟨A, B, c, d, g, s, h1, h2, h4, h5, h6⟩ := h
  exact ⟨A, B, c, d, g, s, h1, h2, h4.keep hb, h5.keep hb, h6⟩
set_option maxRecDepth 100000 in
set_option maxHeartbeats 8000000 in
theorem componentsFinds_c (hN : DevNames) (hO : DevOrder) (hQ : DevQuot) (A B C : Option Addr) (c d k : Nat) (g : GraphD) (s : List Bool) (zs : List Int) (w : World) (hg : RowsAt w A g) (hs : Holds w B (s.map Bo)) (hz : IntsAt w w.heap.size C zs) (hzl : zs.length ≤ maxLen) (hsz : Sized g) :
    Calls Try.prog 3 #[.slice A g.length c, .slice B s.length d, .slice C zs.length k] w fun e w' => e = .returned (.bool true) ∧ Below w.heap.size w w' := by
  have CK := Lib.hid (known5_c hN hO hQ w)
  have HN := Lib.hid hN
  have HO := Lib.hid hO
  have HQ := Lib.hid hQ
  have H0 : Hid (Finds5 w (.slice A g.length c) (.slice B s.length d)) := Lib.hid ⟨A, B, c, d, g, s, rfl, rfl, hg, hs, hsz⟩
  have HZ := Lib.hid hz
  have HL := Lib.hid hzl
  clear hN hO hQ hg hs hz hzl hsz
  go_enter Try.func3, Try.ntmps3
  go_wp2_with fail
  refine CK.out.mono ?_
  rintro e w1 ⟨rfl, hb1⟩
  have ht := tape_new (c := k) HZ.out (Nat.le_refl _) hb1 HL.out
  have hb2 : Below w.heap.size w (w1.alloc (.cells #[.slice C zs.length k, .int .i64 0] 28)) := hb1.alloc hb1.size _
  have HT2 := Lib.hid ht
  have H2 := Lib.hid (H0.out.keep hb2)
  have hgB : w.heap.size ≤ w1.heap.size := hb1.size
  have HB2 := Lib.hid hb2
  have hsz2 : w1.heap.size < (w1.alloc (.cells #[.slice C zs.length k, .int .i64 0] 28)).heap.size := by simp
  clear hb1 ht hb2 H0 CK HZ HL
  go_wp2
  go_loopw [0, 1, 8] (fun raw cl i wr => ∃ n : Nat, i = .int .i64 n ∧ n ≤ 2 ∧ Hid (Finds5 wr raw cl) ∧ Hid (TapeOk wr w.heap.size w1.heap.size (5000 * n)) ∧ Hid (Below w.heap.size w wr) ∧ w1.heap.size < wr.heap.size) (fun _ _ i _ => 2 - (intOf i).toNat)
  case atStart => exact ⟨0, rfl, by omega, H2, HT2, HB2, hsz2⟩
  case round =>
    clear HT2 H2 HB2 hsz2
    obtain ⟨n, rfl, hn, HFi, HT, HB, hsz⟩ := hrel
    have hcase : n = 0 ∨ n = 1 ∨ n = 2 := by omega
    clear hn
    rcases hcase with rfl | rfl | rfl
    · obtain ⟨A', B', c', d', g', s', rfl, rfl, hg', hs', hz'⟩ := HFi.out
      clear HFi
      have HRg := Lib.hid hg'
      have HSs := Lib.hid hs'
      have HZ := Lib.hid hz'
      clear hg' hs' hz'
      have HRg0 := HRg
      have HSs0 := HSs
      have HT0 := HT
      have HB0 := HB
      have hsz0 := hsz
      clear HRg HSs HT HB hsz
      go_wp2_with fail
      refine (HN.out A' B' c' d' g' s' _ HRg0.out HSs0.out HZ.out).mono ?_
      rintro e v1 ⟨Q1, q1, rfl, hr, hb⟩
      have HRg1 := Lib.hid (HRg0.out.keep hb)
      have HSs1 := Lib.hid (HSs0.out.keep hb)
      have HT1 := Lib.hid (HT0.out.keep hb)
      have HB1 := Lib.hid (HB0.out.trans (hb.mono HB0.out.size))
      have hsz1 := Nat.lt_of_lt_of_le hsz0 hb.size
      have HV1_1 := Lib.hid hr
      clear HRg0 HSs0 HT0 HB0 hsz0 hr hb
      go_wp2_with fail
      refine (refNames_c A' B' c' d' g' s' _ HRg1.out HSs1.out HZ.out).mono ?_
      rintro e v2 hp
      obtain ⟨Q2, q2, rfl, hr, hb⟩ := hp.res
      clear hp
      have HRg2 := Lib.hid (HRg1.out.keep hb)
      have HSs2 := Lib.hid (HSs1.out.keep hb)
      have HT2 := Lib.hid (HT1.out.keep hb)
      have HB2 := Lib.hid (HB1.out.trans (hb.mono HB1.out.size))
      have hsz2 := Nat.lt_of_lt_of_le hsz1 hb.size
      have HV1_2 := Lib.hid (HV1_1.out.keep hb)
      have HV2_2 := Lib.hid hr
      clear HRg1 HSs1 HT1 HB1 hsz1 hr hb HV1_1
      go_wp2_with fail
      refine (HO.out A' B' c' d' g' s' _ HRg2.out HSs2.out HZ.out).mono ?_
      rintro e v3 ⟨Q3, q3, rfl, hr, hb⟩
      have HRg3 := Lib.hid (HRg2.out.keep hb)
      have HSs3 := Lib.hid (HSs2.out.keep hb)
      have HT3 := Lib.hid (HT2.out.keep hb)
      have HB3 := Lib.hid (HB2.out.trans (hb.mono HB2.out.size))
      have hsz3 := Nat.lt_of_lt_of_le hsz2 hb.size
      have HV1_3 := Lib.hid (HV1_2.out.keep hb)
      have HV2_3 := Lib.hid (HV2_2.out.keep hb)
      have HV3_3 := Lib.hid hr
      clear HRg2 HSs2 HT2 HB2 hsz2 hr hb HV1_2 HV2_2
      go_wp2_with fail
      refine (refOrder_c A' B' c' d' g' s' _ HRg3.out HSs3.out HZ.out).mono ?_
      rintro e v4 hp
      obtain ⟨Q4, q4, rfl, hr, hb⟩ := hp.res
      clear hp
      have HRg4 := Lib.hid (HRg3.out.keep hb)
      have HSs4 := Lib.hid (HSs3.out.keep hb)
      have HT4 := Lib.hid (HT3.out.keep hb)
      have HB4 := Lib.hid (HB3.out.trans (hb.mono HB3.out.size))
      have hsz4 := Nat.lt_of_lt_of_le hsz3 hb.size
      have HV1_4 := Lib.hid (HV1_3.out.keep hb)
      have HV2_4 := Lib.hid (HV2_3.out.keep hb)
      have HV3_4 := Lib.hid (HV3_3.out.keep hb)
      have HV4_4 := Lib.hid hr
      clear HRg3 HSs3 HT3 HB3 hsz3 hr hb HV1_3 HV2_3 HV3_3
      go_wp2_with fail
      refine (HQ.out A' B' c' d' g' s' _ HRg4.out HSs4.out HZ.out).mono ?_
      rintro e v5 ⟨Q5, q5, rfl, hr, hb⟩
      have HRg5 := Lib.hid (HRg4.out.keep hb)
      have HSs5 := Lib.hid (HSs4.out.keep hb)
      have HT5 := Lib.hid (HT4.out.keep hb)
      have HB5 := Lib.hid (HB4.out.trans (hb.mono HB4.out.size))
      have hsz5 := Nat.lt_of_lt_of_le hsz4 hb.size
      have HV1_5 := Lib.hid (HV1_4.out.keep hb)
      have HV2_5 := Lib.hid (HV2_4.out.keep hb)
      have HV3_5 := Lib.hid (HV3_4.out.keep hb)
      have HV4_5 := Lib.hid (HV4_4.out.keep hb)
      have HV5_5 := Lib.hid hr
      clear HRg4 HSs4 HT4 HB4 hsz4 hr hb HV1_4 HV2_4 HV3_4 HV4_4
      go_wp2_with fail
      refine (refQuotient_c A' B' c' d' g' s' _ HRg5.out HSs5.out HZ.out).mono ?_
      rintro e v6 hp
      obtain ⟨Q6, q6, rfl, hr, hb⟩ := hp.res
      clear hp
      have HRg6 := Lib.hid (HRg5.out.keep hb)
      have HSs6 := Lib.hid (HSs5.out.keep hb)
      have HT6 := Lib.hid (HT5.out.keep hb)
      have HB6 := Lib.hid (HB5.out.trans (hb.mono HB5.out.size))
      have hsz6 := Nat.lt_of_lt_of_le hsz5 hb.size
      have HV1_6 := Lib.hid (HV1_5.out.keep hb)
      have HV2_6 := Lib.hid (HV2_5.out.keep hb)
      have HV3_6 := Lib.hid (HV3_5.out.keep hb)
      have HV4_6 := Lib.hid (HV4_5.out.keep hb)
      have HV5_6 := Lib.hid (HV5_5.out.keep hb)
      have HV6_6 := Lib.hid hr
      clear HRg5 HSs5 HT5 HB5 hsz5 hr hb HV1_5 HV2_5 HV3_5 HV4_5 HV5_5
      have hq1 : (chkG g' s'.length != chkG g' s'.length) = false := by simp
      have HL1 := Lib.hid (nmL_len s' HZ.out)
      have HL2 := Lib.hid (ordL_len s' HZ.out)
      have HL3 := Lib.hid (quoL_sized s' HZ.out)
      go_wp2_with fail
      refine (sameIntsE_c Q1 Q2 q1 q2 (nmL g' s') _ HV1_6.out HV2_6.out HL1.out).mono ?_
      rintro e v7 ⟨rfl, n1, rfl⟩
      go_wp2_with fail
      refine (sameIntsE_c Q3 Q4 q3 q4 (ordL g' s') _ (HV3_6.out.drewN n1) (HV4_6.out.drewN n1) HL2.out).mono ?_
      rintro e v8 ⟨rfl, n2, rfl⟩
      have hb8 := below_drewN (Below.refl v6.heap.size v6) (n1 + n2)
      go_wp2_with fail
      refine (sameListsE_c Q5 Q6 q5 q6 (quoL g' s') _ (HV5_6.out.keep hb8) (HV6_6.out.keep hb8) HL3.out.1 HL3.out.2).mono ?_
      rintro e v9 ⟨rfl, n3, rfl⟩
      have hb9 := below_drewN hb8 n3
      have HF9 : Hid (Finds5 ((v6.drewN (n1 + n2)).drewN n3) (.slice A' g'.length c') (.slice B' s'.length d')) := Lib.hid ⟨A', B', c', d', g', s', rfl, rfl, HRg6.out.keep hb9, HSs6.out.keep hb9, HZ.out⟩
      have HT9 := Lib.hid ((HT6.out.keep hb9).more (show _ ≤ 5000 * 1 by omega))
      have HB9 := Lib.hid (HB6.out.trans (hb9.mono HB6.out.size))
      have hsz9 := Nat.lt_of_lt_of_le hsz6 hb9.size
      clear HRg6 HSs6 HT6 HB6 HV1_6 HV2_6 HV3_6 HV4_6 HV5_6 HV6_6 hsz6 HL1 HL2 HL3 hb8 hb9 hq1
      generalize (v6.drewN (n1 + n2)).drewN n3 = w24 at *
      go_wp2
      go_roundw
      case rel => exact ⟨0 + 1, by go_num, by omega, HF9, HT9, HB9, hsz9⟩
      case measure => simp [intOf]
    · clear HFi
      go_wp2_with fail
      refine (graph_c w.heap.size w1.heap.size _ 10 wr HT.out (by omega) (by omega) hsz).mono ?_
      rintro e w3 ⟨gv, g', rfl, hg10, hok, hown3, ht3, hst3⟩
      obtain ⟨A', c', rfl, _⟩ := hown3.at_
      have hv' := hok.valid (by omega)
      have HT3 := Lib.hid ht3
      have HO3 := Lib.hid hown3
      have HB3 := Lib.hid (HB.out.trans (hst3.below HB.out.size hgB))
      have hsz3 := Nat.lt_of_lt_of_le hsz hst3.size
      clear hok ht3 hown3 hst3 HT HB
      go_wp2_with fail
      refine (shut_c w.heap.size w1.heap.size _ g'.length w3 HT3.out (by omega) (by omega) hsz3).mono ?_
      rintro e w4 ⟨sv, s', rfl, hsl4, hos4, ht4, hst4⟩
      obtain ⟨B', d', rfl⟩ : ∃ B' d', sv = .slice B' s'.length d' := by
        obtain ⟨B1, d1, h, _⟩ := own_is hos4
        exact ⟨B1, d1, by rw [hsl4]; exact h⟩
      have HT := Lib.hid ht4
      have HSs : Hid (Holds w4 B' (s'.map Bo)) := Lib.hid (by
        obtain ⟨A2, c2, h1, h2⟩ := own_is hos4
        injection h1 with h1
        subst h1
        exact h2)
      have HRg : Hid (RowsAt w4 A' g') := Lib.hid (by
        obtain ⟨A2, c2, h1, h2⟩ := (HO3.out.but hst4.grown hsz).at_
        injection h1 with h1
        subst h1
        exact h2)
      have HB := Lib.hid (HB3.out.trans (hst4.below HB3.out.size hgB))
      have hsz5 := Nat.lt_of_lt_of_le hsz3 hst4.size
      have HZ := Lib.hid (Sized.valid hv')
      clear HT3 HO3 HB3 ht4 hos4 hst4 hsl4 hv' hg10 hsz
      have hsz := hsz5
      clear hsz5
      have HRg0 := HRg
      have HSs0 := HSs
      have HT0 := HT
      have HB0 := HB
      have hsz0 := hsz
      clear HRg HSs HT HB hsz
      go_wp2_with fail
      refine (HN.out A' B' c' d' g' s' _ HRg0.out HSs0.out HZ.out).mono ?_
      rintro e v1 ⟨Q1, q1, rfl, hr, hb⟩
      have HRg1 := Lib.hid (HRg0.out.keep hb)
      have HSs1 := Lib.hid (HSs0.out.keep hb)
      have HT1 := Lib.hid (HT0.out.keep hb)
      have HB1 := Lib.hid (HB0.out.trans (hb.mono HB0.out.size))
      have hsz1 := Nat.lt_of_lt_of_le hsz0 hb.size
      have HV1_1 := Lib.hid hr
      clear HRg0 HSs0 HT0 HB0 hsz0 hr hb
      go_wp2_with fail
      refine (refNames_c A' B' c' d' g' s' _ HRg1.out HSs1.out HZ.out).mono ?_
      rintro e v2 hp
      obtain ⟨Q2, q2, rfl, hr, hb⟩ := hp.res
      clear hp
      have HRg2 := Lib.hid (HRg1.out.keep hb)
      have HSs2 := Lib.hid (HSs1.out.keep hb)
      have HT2 := Lib.hid (HT1.out.keep hb)
      have HB2 := Lib.hid (HB1.out.trans (hb.mono HB1.out.size))
      have hsz2 := Nat.lt_of_lt_of_le hsz1 hb.size
      have HV1_2 := Lib.hid (HV1_1.out.keep hb)
      have HV2_2 := Lib.hid hr
      clear HRg1 HSs1 HT1 HB1 hsz1 hr hb HV1_1
      go_wp2_with fail
      refine (HO.out A' B' c' d' g' s' _ HRg2.out HSs2.out HZ.out).mono ?_
      rintro e v3 ⟨Q3, q3, rfl, hr, hb⟩
      have HRg3 := Lib.hid (HRg2.out.keep hb)
      have HSs3 := Lib.hid (HSs2.out.keep hb)
      have HT3 := Lib.hid (HT2.out.keep hb)
      have HB3 := Lib.hid (HB2.out.trans (hb.mono HB2.out.size))
      have hsz3 := Nat.lt_of_lt_of_le hsz2 hb.size
      have HV1_3 := Lib.hid (HV1_2.out.keep hb)
      have HV2_3 := Lib.hid (HV2_2.out.keep hb)
      have HV3_3 := Lib.hid hr
      clear HRg2 HSs2 HT2 HB2 hsz2 hr hb HV1_2 HV2_2
      go_wp2_with fail
      refine (refOrder_c A' B' c' d' g' s' _ HRg3.out HSs3.out HZ.out).mono ?_
      rintro e v4 hp
      obtain ⟨Q4, q4, rfl, hr, hb⟩ := hp.res
      clear hp
      have HRg4 := Lib.hid (HRg3.out.keep hb)
      have HSs4 := Lib.hid (HSs3.out.keep hb)
      have HT4 := Lib.hid (HT3.out.keep hb)
      have HB4 := Lib.hid (HB3.out.trans (hb.mono HB3.out.size))
      have hsz4 := Nat.lt_of_lt_of_le hsz3 hb.size
      have HV1_4 := Lib.hid (HV1_3.out.keep hb)
      have HV2_4 := Lib.hid (HV2_3.out.keep hb)
      have HV3_4 := Lib.hid (HV3_3.out.keep hb)
      have HV4_4 := Lib.hid hr
      clear HRg3 HSs3 HT3 HB3 hsz3 hr hb HV1_3 HV2_3 HV3_3
      go_wp2_with fail
      refine (HQ.out A' B' c' d' g' s' _ HRg4.out HSs4.out HZ.out).mono ?_
      rintro e v5 ⟨Q5, q5, rfl, hr, hb⟩
      have HRg5 := Lib.hid (HRg4.out.keep hb)
      have HSs5 := Lib.hid (HSs4.out.keep hb)
      have HT5 := Lib.hid (HT4.out.keep hb)
      have HB5 := Lib.hid (HB4.out.trans (hb.mono HB4.out.size))
      have hsz5 := Nat.lt_of_lt_of_le hsz4 hb.size
      have HV1_5 := Lib.hid (HV1_4.out.keep hb)
      have HV2_5 := Lib.hid (HV2_4.out.keep hb)
      have HV3_5 := Lib.hid (HV3_4.out.keep hb)
      have HV4_5 := Lib.hid (HV4_4.out.keep hb)
      have HV5_5 := Lib.hid hr
      clear HRg4 HSs4 HT4 HB4 hsz4 hr hb HV1_4 HV2_4 HV3_4 HV4_4
      go_wp2_with fail
      refine (refQuotient_c A' B' c' d' g' s' _ HRg5.out HSs5.out HZ.out).mono ?_
      rintro e v6 hp
      obtain ⟨Q6, q6, rfl, hr, hb⟩ := hp.res
      clear hp
      have HRg6 := Lib.hid (HRg5.out.keep hb)
      have HSs6 := Lib.hid (HSs5.out.keep hb)
      have HT6 := Lib.hid (HT5.out.keep hb)
      have HB6 := Lib.hid (HB5.out.trans (hb.mono HB5.out.size))
      have hsz6 := Nat.lt_of_lt_of_le hsz5 hb.size
      have HV1_6 := Lib.hid (HV1_5.out.keep hb)
      have HV2_6 := Lib.hid (HV2_5.out.keep hb)
      have HV3_6 := Lib.hid (HV3_5.out.keep hb)
      have HV4_6 := Lib.hid (HV4_5.out.keep hb)
      have HV5_6 := Lib.hid (HV5_5.out.keep hb)
      have HV6_6 := Lib.hid hr
      clear HRg5 HSs5 HT5 HB5 hsz5 hr hb HV1_5 HV2_5 HV3_5 HV4_5 HV5_5
      have hq1 : (chkG g' s'.length != chkG g' s'.length) = false := by simp
      have HL1 := Lib.hid (nmL_len s' HZ.out)
      have HL2 := Lib.hid (ordL_len s' HZ.out)
      have HL3 := Lib.hid (quoL_sized s' HZ.out)
      go_wp2_with fail
      refine (sameIntsE_c Q1 Q2 q1 q2 (nmL g' s') _ HV1_6.out HV2_6.out HL1.out).mono ?_
      rintro e v7 ⟨rfl, n1, rfl⟩
      go_wp2_with fail
      refine (sameIntsE_c Q3 Q4 q3 q4 (ordL g' s') _ (HV3_6.out.drewN n1) (HV4_6.out.drewN n1) HL2.out).mono ?_
      rintro e v8 ⟨rfl, n2, rfl⟩
      have hb8 := below_drewN (Below.refl v6.heap.size v6) (n1 + n2)
      go_wp2_with fail
      refine (sameListsE_c Q5 Q6 q5 q6 (quoL g' s') _ (HV5_6.out.keep hb8) (HV6_6.out.keep hb8) HL3.out.1 HL3.out.2).mono ?_
      rintro e v9 ⟨rfl, n3, rfl⟩
      have hb9 := below_drewN hb8 n3
      have HF9 : Hid (Finds5 ((v6.drewN (n1 + n2)).drewN n3) (.slice A' g'.length c') (.slice B' s'.length d')) := Lib.hid ⟨A', B', c', d', g', s', rfl, rfl, HRg6.out.keep hb9, HSs6.out.keep hb9, HZ.out⟩
      have HT9 := Lib.hid ((HT6.out.keep hb9).more (show _ ≤ 5000 * 2 by omega))
      have HB9 := Lib.hid (HB6.out.trans (hb9.mono HB6.out.size))
      have hsz9 := Nat.lt_of_lt_of_le hsz6 hb9.size
      clear HRg6 HSs6 HT6 HB6 HV1_6 HV2_6 HV3_6 HV4_6 HV5_6 HV6_6 hsz6 HL1 HL2 HL3 hb8 hb9 hq1
      generalize (v6.drewN (n1 + n2)).drewN n3 = w24 at *
      go_wp2
      go_roundw
      case rel => exact ⟨1 + 1, by go_num, by omega, HF9, HT9, HB9, hsz9⟩
      case measure => simp [intOf]
    · clear HFi HT
      go_wp2
      go_ret
      exact ⟨rfl, HB.out⟩
end Go.Proofs.Ytcljmgchghjncaa
