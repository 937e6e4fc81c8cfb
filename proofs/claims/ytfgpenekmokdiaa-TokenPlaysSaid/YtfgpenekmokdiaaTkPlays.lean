/- TokenPlays returns true. -/
import Derived.Test.YtfgpenekmokdiaaMzAU
import Derived.Test.YtfgpenekmokdiaaMzAV
import Derived.Test.YtfgpenekmokdiaaMzAE
namespace Go.Proofs.Ytfgpenekmokdiaa
open Go Go.RowKit Fl

def freeO (g : GraphD) (ts ws : List Int) : List Int := if posB g ts ws = true then freeL ts ws ts.length else []
def freeEr (g : GraphD) (ts ws : List Int) : Int := if posB g ts ws = true then 0 else 20
def ringO (g : GraphD) (ts ws : List Int) : List Int := if posB g ts ws = true then ringL ts ws else []
def ringEr (g : GraphD) (ts ws : List Int) : Int := if posB g ts ws = true then (if (ringR ts ws).isSome then 0 else 25) else 20
theorem FreePost.res {g : GraphD} {ts ws : List Int} {w w' : World} {e : Ending} (h : FreePost g ts ws w e w') : ∃ X cx, e = .returned (.tuple #[.slice X (freeO g ts ws).length cx, .int .i64 (freeEr g ts ws)]) ∧ Holds w' X ((freeO g ts ws).map Iv) ∧ Below w.heap.size w w' := by
  obtain ⟨hb, he⟩ := h
  unfold freeO freeEr
  rcases hp : posB g ts ws with _ | _
  · rw [hp, if_neg (by decide)] at he
    subst he
    exact ⟨none, 0, rfl, .inl rfl, hb⟩
  · rw [hp, if_pos rfl] at he
    obtain ⟨u, rfl, hu⟩ := he
    obtain ⟨X, cx, rfl, hx⟩ := own_is hu
    exact ⟨X, cx, rfl, hx, hb⟩
theorem ringRes_res {g : GraphD} {ts ws : List Int} {B : Nat} {w' : World} {e : Ending} (h : RingRes (posB g ts ws) (ringR ts ws) B e w') : ∃ X cx, e = .returned (.tuple #[.slice X (ringO g ts ws).length cx, .int .i64 (ringEr g ts ws)]) ∧ Holds w' X ((ringO g ts ws).map Iv) := by
  unfold ringO ringEr ringL
  rcases h with ⟨h1, rfl⟩ | ⟨h1, h2, rfl⟩ | ⟨h1, r, u, h2, rfl, ho⟩
  · rw [h1]
    exact ⟨none, 0, rfl, .inl rfl⟩
  · rw [h1, h2]
    exact ⟨none, 0, rfl, .inl rfl⟩
  · rw [h1, h2]
    obtain ⟨X, cx, rfl, hx⟩ := own_is ho
    exact ⟨X, cx, rfl, hx⟩
theorem freeO_len (g : GraphD) (ts ws : List Int) : (freeO g ts ws).length ≤ 1000000000000000000 := by
  unfold freeO
  by_cases h : posB g ts ws = true
  · rw [if_pos h]
    have := freeL_len ts ws ts.length
    have := (posB_iff.1 h).few
    omega
  · rw [if_neg h]; simp
theorem ringO_len (g : GraphD) (ts ws : List Int) : (ringO g ts ws).length ≤ 1000000000000000000 := by
  unfold ringO
  by_cases h : posB g ts ws = true
  · rw [if_pos h]
    have h24 := (posB_iff.1 h).few
    unfold ringL ringR
    by_cases h0 : ts.length = 0
    · rw [if_pos h0]; simp
    · rw [if_neg h0]
      rcases ha : ringA ts ws (ts.length + 1) [] 0 with _ | ⟨way, t⟩
      · simp
      · obtain ⟨h1, h2⟩ := ringA_some _ _ _ _ _ (WayOk.begin (by omega)) ha
        obtain ⟨k, hk, e, _⟩ := fromT_mem h2
        have hl := h1.len
        show (turnL (fromT way t)).length ≤ _
        rw [turnL_length, e, List.length_drop]
        omega
  · rw [if_neg h]; simp
/-- What the loop holds: a graph, tokens and wants. -/
def Plays12 (w : World) (raw av wv : Value) : Prop := ∃ (A A1 A2 : Option Addr) (c c1 c2 : Nat) (g : GraphD) (ts ws : List Int), raw = .slice A g.length c ∧ av = .slice A1 ts.length c1 ∧ wv = .slice A2 ws.length c2 ∧ RowsAt w A g ∧ Holds w A1 (ts.map Iv) ∧ Holds w A2 (ws.map Iv) ∧ Sized g ∧ ts.length ≤ c1
theorem Plays12.keep {w w' : World} {raw av wv : Value} (h : Plays12 w raw av wv) (hb : Below w.heap.size w w') : Plays12 w' raw av wv := by
  obtain ⟨A, A1, A2, c, c1, c2, g, ts, ws, h1, h2, h3, h4, h5, h6, h7, h8⟩ := h
  exact ⟨A, A1, A2, c, c1, c2, g, ts, ws, h1, h2, h3, h4.keep hb, h5.keep hb, h6.keep hb, h7, h8⟩
theorem rows_ofP {w : World} {base c : Nat} {A : Option Addr} {g : GraphD} (h : RowsOwn w base (.slice A g.length c) g) : RowsAt w A g := by
  obtain ⟨A2, c2, h1, h2⟩ := h.at_
  injection h1 with h1
  subst h1
  exact h2
set_option maxRecDepth 100000 in
set_option maxHeartbeats 8000000 in
theorem tokenPlays_c (A A1 A2 C : Option Addr) (c c1 c2 k : Nat) (g : GraphD) (ts ws zs : List Int) (w : World) (hg : RowsAt w A g) (h1 : Holds w A1 (ts.map Iv)) (h2 : Holds w A2 (ws.map Iv)) (hcap : ts.length ≤ c1) (hz : IntsAt w w.heap.size C zs) (hzl : zs.length ≤ maxLen) (hsz : Sized g) :
    Calls Try.prog 3 #[.slice A g.length c, .slice A1 ts.length c1, .slice A2 ws.length c2, .slice C zs.length k] w fun e w' => e = .returned (.bool true) ∧ Below w.heap.size w w' := by
  have CK := Lib.hid (known12_c w)
  have H0 : Hid (Plays12 w (.slice A g.length c) (.slice A1 ts.length c1) (.slice A2 ws.length c2)) := Lib.hid ⟨A, A1, A2, c, c1, c2, g, ts, ws, rfl, rfl, rfl, hg, h1, h2, hsz, hcap⟩
  have HZ := Lib.hid hz
  have HL := Lib.hid hzl
  clear hg h1 h2 hz hzl hsz hcap
  go_enter Try.func3, Try.ntmps3
  go_wp2_with fail
  refine CK.out.mono ?_
  rintro e w1 ⟨rfl, hb1⟩
  have ht := tape_new (c := k) HZ.out (Nat.le_refl _) hb1 HL.out
  have hb2 : Below w.heap.size w (w1.alloc (.cells #[.slice C zs.length k, .int .i64 0] 27)) := hb1.alloc hb1.size _
  have HT2 := Lib.hid ht
  have H2 := Lib.hid (H0.out.keep hb2)
  have hgB : w.heap.size ≤ w1.heap.size := hb1.size
  have HB2 := Lib.hid hb2
  have hsz2 : w1.heap.size < (w1.alloc (.cells #[.slice C zs.length k, .int .i64 0] 27)).heap.size := by simp
  clear hb1 ht hb2 H0 CK HZ HL
  go_wp2
  go_loopw [0, 1, 2, 10] (fun raw av wv i wr => ∃ n : Nat, i = .int .i64 n ∧ n ≤ 2 ∧ Hid (Plays12 wr raw av wv) ∧ Hid (TapeOk wr w.heap.size w1.heap.size (5000 * n)) ∧ Hid (Below w.heap.size w wr) ∧ w1.heap.size < wr.heap.size) (fun _ _ _ i _ => 2 - (intOf i).toNat)
  case atStart => exact ⟨0, rfl, by omega, H2, HT2, HB2, hsz2⟩
  case round =>
    clear HT2 H2 HB2 hsz2
    obtain ⟨n, rfl, hn, HFi, HT_0, HB_0, hsz_0⟩ := hrel
    have hcase : n = 0 ∨ n = 1 ∨ n = 2 := by omega
    clear hn
    rcases hcase with rfl | rfl | rfl
    · obtain ⟨A', A1', A2', c', c1', c2', g', ts', ws', rfl, rfl, rfl, hg', h1', h2', hz', hcap'⟩ := HFi.out
      clear HFi
      have HRg_0 := Lib.hid hg'
      have HA1_0 := Lib.hid h1'
      have HA2_0 := Lib.hid h2'
      have HZ := Lib.hid hz'
      clear hg' h1' h2' hz'
      go_wp2_with fail
      refine (devFree_c A' A1' A2' c' c1' c2' g' ts' ws' _ HRg_0.out HA1_0.out HA2_0.out HZ.out).mono ?_
      rintro e v1 hp
      obtain ⟨Q1, q1, rfl, hr, hb⟩ := hp.res
      clear hp
      have HV1_1 := Lib.hid hr
      clear hr
      have HRg_1 := Lib.hid (HRg_0.out.keep hb)
      have HA1_1 := Lib.hid (HA1_0.out.keep hb)
      have HA2_1 := Lib.hid (HA2_0.out.keep hb)
      have HT_1 := Lib.hid (HT_0.out.keep hb)
      have HB_1 := Lib.hid (HB_0.out.trans (hb.mono HB_0.out.size))
      have hsz_1 := Nat.lt_of_lt_of_le hsz_0 hb.size
      clear HRg_0 HA1_0 HA2_0 HT_0 HB_0 hsz_0 hb
      go_wp2_with fail
      refine (refFree_c A' A1' A2' c' c1' c2' g' ts' ws' _ HRg_1.out HA1_1.out HA2_1.out hcap' HZ.out.1 HZ.out.2).mono ?_
      rintro e v2 hp
      obtain ⟨Q2, q2, rfl, hr, hb⟩ := hp.res
      clear hp
      have HV2_2 := Lib.hid hr
      clear hr
      have HRg_2 := Lib.hid (HRg_1.out.keep hb)
      have HA1_2 := Lib.hid (HA1_1.out.keep hb)
      have HA2_2 := Lib.hid (HA2_1.out.keep hb)
      have HT_2 := Lib.hid (HT_1.out.keep hb)
      have HV1_2 := Lib.hid (HV1_1.out.keep hb)
      have HB_2 := Lib.hid (HB_1.out.trans (hb.mono HB_1.out.size))
      have hsz_2 := Nat.lt_of_lt_of_le hsz_1 hb.size
      clear HRg_1 HA1_1 HA2_1 HT_1 HB_1 HV1_1 hsz_1 hb
      go_wp2_with fail
      refine (devRing_c A' A1' A2' c' c1' c2' g' ts' ws' _ HRg_2.out HA1_2.out HA2_2.out HZ.out).mono ?_
      rintro e v3 ⟨hb, hp⟩
      obtain ⟨Q3, q3, rfl, hr⟩ := ringRes_res hp
      clear hp
      have HV3_3 := Lib.hid hr
      clear hr
      have HRg_3 := Lib.hid (HRg_2.out.keep hb)
      have HA1_3 := Lib.hid (HA1_2.out.keep hb)
      have HA2_3 := Lib.hid (HA2_2.out.keep hb)
      have HT_3 := Lib.hid (HT_2.out.keep hb)
      have HV1_3 := Lib.hid (HV1_2.out.keep hb)
      have HV2_3 := Lib.hid (HV2_2.out.keep hb)
      have HB_3 := Lib.hid (HB_2.out.trans (hb.mono HB_2.out.size))
      have hsz_3 := Nat.lt_of_lt_of_le hsz_2 hb.size
      clear HRg_2 HA1_2 HA2_2 HT_2 HB_2 HV1_2 HV2_2 hsz_2 hb
      go_wp2_with fail
      refine (refRing_c A' A1' A2' c' c1' c2' g' ts' ws' _ HRg_3.out HA1_3.out HA2_3.out hcap' HZ.out.1 HZ.out.2).mono ?_
      rintro e v4 ⟨hb, hp⟩
      obtain ⟨Q4, q4, rfl, hr⟩ := ringRes_res hp
      clear hp
      have HV4_4 := Lib.hid hr
      clear hr
      have HRg_4 := Lib.hid (HRg_3.out.keep hb)
      have HA1_4 := Lib.hid (HA1_3.out.keep hb)
      have HA2_4 := Lib.hid (HA2_3.out.keep hb)
      have HT_4 := Lib.hid (HT_3.out.keep hb)
      have HV1_4 := Lib.hid (HV1_3.out.keep hb)
      have HV2_4 := Lib.hid (HV2_3.out.keep hb)
      have HV3_4 := Lib.hid (HV3_3.out.keep hb)
      have HB_4 := Lib.hid (HB_3.out.trans (hb.mono HB_3.out.size))
      have hsz_4 := Nat.lt_of_lt_of_le hsz_3 hb.size
      clear HRg_3 HA1_3 HA2_3 HT_3 HB_3 HV1_3 HV2_3 HV3_3 hsz_3 hb
      have hq1 : (posB g' ts' ws' != posB g' ts' ws') = false := by simp
      have hq2 : (stuckB g' ts' ws' != stuckB g' ts' ws') = false := by simp
      have hq3 : (freeEr g' ts' ws' != freeEr g' ts' ws') = false := by simp
      have hq4 : (ringEr g' ts' ws' != ringEr g' ts' ws') = false := by simp
      have HL1 := Lib.hid (freeO_len g' ts' ws')
      have HL2 := Lib.hid (ringO_len g' ts' ws')
      go_wp2_with fail
      refine (devValidT_c A' A1' A2' c' c1' c2' g' ts' ws' _ HRg_4.out HA1_4.out HA2_4.out HZ.out).mono ?_
      rintro e v5 ⟨rfl, hb⟩
      have HRg_5 := Lib.hid (HRg_4.out.keep hb)
      have HA1_5 := Lib.hid (HA1_4.out.keep hb)
      have HA2_5 := Lib.hid (HA2_4.out.keep hb)
      have HT_5 := Lib.hid (HT_4.out.keep hb)
      have HV1_5 := Lib.hid (HV1_4.out.keep hb)
      have HV2_5 := Lib.hid (HV2_4.out.keep hb)
      have HV3_5 := Lib.hid (HV3_4.out.keep hb)
      have HV4_5 := Lib.hid (HV4_4.out.keep hb)
      have HB_5 := Lib.hid (HB_4.out.trans (hb.mono HB_4.out.size))
      have hsz_5 := Nat.lt_of_lt_of_le hsz_4 hb.size
      clear HRg_4 HA1_4 HA2_4 HT_4 HB_4 HV1_4 HV2_4 HV3_4 HV4_4 hsz_4 hb
      go_wp2_with fail
      refine (pos_c A' A1' A2' c' c1' c2' g' ts' ws' _ HRg_5.out HA1_5.out HA2_5.out hcap' HZ.out.1 HZ.out.2).mono ?_
      rintro e v6 ⟨rfl, n6, hv6⟩
      have hb : Below v5.heap.size v5 v6 := by rw [hv6]; exact below_drewN (Below.refl _ _) n6
      clear hv6
      have HRg_6 := Lib.hid (HRg_5.out.keep hb)
      have HA1_6 := Lib.hid (HA1_5.out.keep hb)
      have HA2_6 := Lib.hid (HA2_5.out.keep hb)
      have HT_6 := Lib.hid (HT_5.out.keep hb)
      have HV1_6 := Lib.hid (HV1_5.out.keep hb)
      have HV2_6 := Lib.hid (HV2_5.out.keep hb)
      have HV3_6 := Lib.hid (HV3_5.out.keep hb)
      have HV4_6 := Lib.hid (HV4_5.out.keep hb)
      have HB_6 := Lib.hid (HB_5.out.trans (hb.mono HB_5.out.size))
      have hsz_6 := Nat.lt_of_lt_of_le hsz_5 hb.size
      clear HRg_5 HA1_5 HA2_5 HT_5 HB_5 HV1_5 HV2_5 HV3_5 HV4_5 hsz_5 hb
      go_wp2_with fail
      refine (devStuck_c A' A1' A2' c' c1' c2' g' ts' ws' _ HRg_6.out HA1_6.out HA2_6.out HZ.out).mono ?_
      rintro e v7 ⟨rfl, hb⟩
      have HRg_7 := Lib.hid (HRg_6.out.keep hb)
      have HA1_7 := Lib.hid (HA1_6.out.keep hb)
      have HA2_7 := Lib.hid (HA2_6.out.keep hb)
      have HT_7 := Lib.hid (HT_6.out.keep hb)
      have HV1_7 := Lib.hid (HV1_6.out.keep hb)
      have HV2_7 := Lib.hid (HV2_6.out.keep hb)
      have HV3_7 := Lib.hid (HV3_6.out.keep hb)
      have HV4_7 := Lib.hid (HV4_6.out.keep hb)
      have HB_7 := Lib.hid (HB_6.out.trans (hb.mono HB_6.out.size))
      have hsz_7 := Nat.lt_of_lt_of_le hsz_6 hb.size
      clear HRg_6 HA1_6 HA2_6 HT_6 HB_6 HV1_6 HV2_6 HV3_6 HV4_6 hsz_6 hb
      go_wp2_with fail
      refine (refStuck_c A' A1' A2' c' c1' c2' g' ts' ws' _ HRg_7.out HA1_7.out HA2_7.out hcap' HZ.out.1 HZ.out.2).mono ?_
      rintro e v8 ⟨rfl, hb⟩
      have HRg_8 := Lib.hid (HRg_7.out.keep hb)
      have HA1_8 := Lib.hid (HA1_7.out.keep hb)
      have HA2_8 := Lib.hid (HA2_7.out.keep hb)
      have HT_8 := Lib.hid (HT_7.out.keep hb)
      have HV1_8 := Lib.hid (HV1_7.out.keep hb)
      have HV2_8 := Lib.hid (HV2_7.out.keep hb)
      have HV3_8 := Lib.hid (HV3_7.out.keep hb)
      have HV4_8 := Lib.hid (HV4_7.out.keep hb)
      have HB_8 := Lib.hid (HB_7.out.trans (hb.mono HB_7.out.size))
      have hsz_8 := Nat.lt_of_lt_of_le hsz_7 hb.size
      clear HRg_7 HA1_7 HA2_7 HT_7 HB_7 HV1_7 HV2_7 HV3_7 HV4_7 hsz_7 hb
      go_wp2_with fail
      refine (sameIntsE_c Q1 Q2 q1 q2 (freeO g' ts' ws') _ HV1_8.out HV2_8.out HL1.out).mono ?_
      rintro e v9 ⟨rfl, n9, rfl⟩
      go_wp2_with fail
      refine (sameIntsE_c Q3 Q4 q3 q4 (ringO g' ts' ws') _ (HV3_8.out.drewN n9) (HV4_8.out.drewN n9) HL2.out).mono ?_
      rintro e v10 ⟨rfl, n10, rfl⟩
      have hb := below_drewN (Below.refl v8.heap.size v8) (n9 + n10)
      have HF9 : Hid (Plays12 (v8.drewN (n9 + n10)) (.slice A' g'.length c') (.slice A1' ts'.length c1') (.slice A2' ws'.length c2')) := Lib.hid (by exact ⟨A', A1', A2', c', c1', c2', g', ts', ws', rfl, rfl, rfl, HRg_8.out.keep hb, HA1_8.out.keep hb, HA2_8.out.keep hb, HZ.out, hcap'⟩)
      have HT9 : Hid (TapeOk (v8.drewN (n9 + n10)) w.heap.size w1.heap.size (5000 * 1)) := Lib.hid (by exact (HT_8.out.keep hb).more (by omega))
      have HB9 : Hid (Below w.heap.size w (v8.drewN (n9 + n10))) := Lib.hid (by exact HB_8.out.trans (hb.mono HB_8.out.size))
      have hsz9 : w1.heap.size < (v8.drewN (n9 + n10)).heap.size := hsz_8
      clear HRg_8 HA1_8 HA2_8 HT_8 HB_8 HV1_8 HV2_8 HV3_8 HV4_8 hsz_8 HL1 HL2 hb
      go_wp2
      go_roundw
      case rel => exact ⟨0 + 1, by go_num, by omega, HF9, HT9, HB9, hsz9⟩
      case measure => simp [intOf]
    · clear HFi
      go_wp2_with fail
      refine (graph_c w.heap.size w1.heap.size _ 9 wr HT_0.out (by omega) (by omega) hsz_0).mono ?_
      rintro e w3 ⟨gv, g', rfl, hg10, hok, hown3, ht3, hst3⟩
      obtain ⟨A', c', rfl, _⟩ := hown3.at_
      have HV := Lib.hid (hok.valid (by omega))
      have HT3 := Lib.hid ht3
      have HO3 := Lib.hid hown3
      have HB3 := Lib.hid (HB_0.out.trans (hst3.below HB_0.out.size hgB))
      have hsz3 := Nat.lt_of_lt_of_le hsz_0 hst3.size
      clear hok ht3 hown3 hst3 HT_0 HB_0
      go_wp2_with fail
      refine (position_any w.heap.size w1.heap.size _ 9 _ A' c' g' w3 HT3.out (by omega) (by omega) hsz3 HV.out (by omega) HO3.out hsz_0).mono ?_
      rintro e w5 ⟨v1, v2, ts', ws', rfl, hrows, hpos, hts, ht5, hst5⟩
      obtain ⟨A1', c1', rfl, hcap', hh1⟩ := own_cap hrows.one
      obtain ⟨A2', c2', rfl, _, hh2⟩ := own_cap hrows.two
      have HA1_0 := Lib.hid hh1
      have HA2_0 := Lib.hid hh2
      have HRg_0 := Lib.hid (rows_ofP (HO3.out.but hst5.asGrown hsz_0))
      have HB_0 := Lib.hid (HB3.out.trans (hst5.below HB3.out.size hgB))
      have HT_0 := Lib.hid ht5
      have HZ := Lib.hid (Sized.valid hpos.graph)
      have hsz_0 := Nat.lt_of_lt_of_le hsz3 hst5.size
      clear hrows hpos ht5 hst5 hh1 hh2 HO3 HT3 HB3 HV
      go_wp2_with fail
      refine (devFree_c A' A1' A2' c' c1' c2' g' ts' ws' _ HRg_0.out HA1_0.out HA2_0.out HZ.out).mono ?_
      rintro e v1 hp
      obtain ⟨Q1, q1, rfl, hr, hb⟩ := hp.res
      clear hp
      have HV1_1 := Lib.hid hr
      clear hr
      have HRg_1 := Lib.hid (HRg_0.out.keep hb)
      have HA1_1 := Lib.hid (HA1_0.out.keep hb)
      have HA2_1 := Lib.hid (HA2_0.out.keep hb)
      have HT_1 := Lib.hid (HT_0.out.keep hb)
      have HB_1 := Lib.hid (HB_0.out.trans (hb.mono HB_0.out.size))
      have hsz_1 := Nat.lt_of_lt_of_le hsz_0 hb.size
      clear HRg_0 HA1_0 HA2_0 HT_0 HB_0 hsz_0 hb
      go_wp2_with fail
      refine (refFree_c A' A1' A2' c' c1' c2' g' ts' ws' _ HRg_1.out HA1_1.out HA2_1.out hcap' HZ.out.1 HZ.out.2).mono ?_
      rintro e v2 hp
      obtain ⟨Q2, q2, rfl, hr, hb⟩ := hp.res
      clear hp
      have HV2_2 := Lib.hid hr
      clear hr
      have HRg_2 := Lib.hid (HRg_1.out.keep hb)
      have HA1_2 := Lib.hid (HA1_1.out.keep hb)
      have HA2_2 := Lib.hid (HA2_1.out.keep hb)
      have HT_2 := Lib.hid (HT_1.out.keep hb)
      have HV1_2 := Lib.hid (HV1_1.out.keep hb)
      have HB_2 := Lib.hid (HB_1.out.trans (hb.mono HB_1.out.size))
      have hsz_2 := Nat.lt_of_lt_of_le hsz_1 hb.size
      clear HRg_1 HA1_1 HA2_1 HT_1 HB_1 HV1_1 hsz_1 hb
      go_wp2_with fail
      refine (devRing_c A' A1' A2' c' c1' c2' g' ts' ws' _ HRg_2.out HA1_2.out HA2_2.out HZ.out).mono ?_
      rintro e v3 ⟨hb, hp⟩
      obtain ⟨Q3, q3, rfl, hr⟩ := ringRes_res hp
      clear hp
      have HV3_3 := Lib.hid hr
      clear hr
      have HRg_3 := Lib.hid (HRg_2.out.keep hb)
      have HA1_3 := Lib.hid (HA1_2.out.keep hb)
      have HA2_3 := Lib.hid (HA2_2.out.keep hb)
      have HT_3 := Lib.hid (HT_2.out.keep hb)
      have HV1_3 := Lib.hid (HV1_2.out.keep hb)
      have HV2_3 := Lib.hid (HV2_2.out.keep hb)
      have HB_3 := Lib.hid (HB_2.out.trans (hb.mono HB_2.out.size))
      have hsz_3 := Nat.lt_of_lt_of_le hsz_2 hb.size
      clear HRg_2 HA1_2 HA2_2 HT_2 HB_2 HV1_2 HV2_2 hsz_2 hb
      go_wp2_with fail
      refine (refRing_c A' A1' A2' c' c1' c2' g' ts' ws' _ HRg_3.out HA1_3.out HA2_3.out hcap' HZ.out.1 HZ.out.2).mono ?_
      rintro e v4 ⟨hb, hp⟩
      obtain ⟨Q4, q4, rfl, hr⟩ := ringRes_res hp
      clear hp
      have HV4_4 := Lib.hid hr
      clear hr
      have HRg_4 := Lib.hid (HRg_3.out.keep hb)
      have HA1_4 := Lib.hid (HA1_3.out.keep hb)
      have HA2_4 := Lib.hid (HA2_3.out.keep hb)
      have HT_4 := Lib.hid (HT_3.out.keep hb)
      have HV1_4 := Lib.hid (HV1_3.out.keep hb)
      have HV2_4 := Lib.hid (HV2_3.out.keep hb)
      have HV3_4 := Lib.hid (HV3_3.out.keep hb)
      have HB_4 := Lib.hid (HB_3.out.trans (hb.mono HB_3.out.size))
      have hsz_4 := Nat.lt_of_lt_of_le hsz_3 hb.size
      clear HRg_3 HA1_3 HA2_3 HT_3 HB_3 HV1_3 HV2_3 HV3_3 hsz_3 hb
      have hq1 : (posB g' ts' ws' != posB g' ts' ws') = false := by simp
      have hq2 : (stuckB g' ts' ws' != stuckB g' ts' ws') = false := by simp
      have hq3 : (freeEr g' ts' ws' != freeEr g' ts' ws') = false := by simp
      have hq4 : (ringEr g' ts' ws' != ringEr g' ts' ws') = false := by simp
      have HL1 := Lib.hid (freeO_len g' ts' ws')
      have HL2 := Lib.hid (ringO_len g' ts' ws')
      go_wp2_with fail
      refine (devValidT_c A' A1' A2' c' c1' c2' g' ts' ws' _ HRg_4.out HA1_4.out HA2_4.out HZ.out).mono ?_
      rintro e v5 ⟨rfl, hb⟩
      have HRg_5 := Lib.hid (HRg_4.out.keep hb)
      have HA1_5 := Lib.hid (HA1_4.out.keep hb)
      have HA2_5 := Lib.hid (HA2_4.out.keep hb)
      have HT_5 := Lib.hid (HT_4.out.keep hb)
      have HV1_5 := Lib.hid (HV1_4.out.keep hb)
      have HV2_5 := Lib.hid (HV2_4.out.keep hb)
      have HV3_5 := Lib.hid (HV3_4.out.keep hb)
      have HV4_5 := Lib.hid (HV4_4.out.keep hb)
      have HB_5 := Lib.hid (HB_4.out.trans (hb.mono HB_4.out.size))
      have hsz_5 := Nat.lt_of_lt_of_le hsz_4 hb.size
      clear HRg_4 HA1_4 HA2_4 HT_4 HB_4 HV1_4 HV2_4 HV3_4 HV4_4 hsz_4 hb
      go_wp2_with fail
      refine (pos_c A' A1' A2' c' c1' c2' g' ts' ws' _ HRg_5.out HA1_5.out HA2_5.out hcap' HZ.out.1 HZ.out.2).mono ?_
      rintro e v6 ⟨rfl, n6, hv6⟩
      have hb : Below v5.heap.size v5 v6 := by rw [hv6]; exact below_drewN (Below.refl _ _) n6
      clear hv6
      have HRg_6 := Lib.hid (HRg_5.out.keep hb)
      have HA1_6 := Lib.hid (HA1_5.out.keep hb)
      have HA2_6 := Lib.hid (HA2_5.out.keep hb)
      have HT_6 := Lib.hid (HT_5.out.keep hb)
      have HV1_6 := Lib.hid (HV1_5.out.keep hb)
      have HV2_6 := Lib.hid (HV2_5.out.keep hb)
      have HV3_6 := Lib.hid (HV3_5.out.keep hb)
      have HV4_6 := Lib.hid (HV4_5.out.keep hb)
      have HB_6 := Lib.hid (HB_5.out.trans (hb.mono HB_5.out.size))
      have hsz_6 := Nat.lt_of_lt_of_le hsz_5 hb.size
      clear HRg_5 HA1_5 HA2_5 HT_5 HB_5 HV1_5 HV2_5 HV3_5 HV4_5 hsz_5 hb
      go_wp2_with fail
      refine (devStuck_c A' A1' A2' c' c1' c2' g' ts' ws' _ HRg_6.out HA1_6.out HA2_6.out HZ.out).mono ?_
      rintro e v7 ⟨rfl, hb⟩
      have HRg_7 := Lib.hid (HRg_6.out.keep hb)
      have HA1_7 := Lib.hid (HA1_6.out.keep hb)
      have HA2_7 := Lib.hid (HA2_6.out.keep hb)
      have HT_7 := Lib.hid (HT_6.out.keep hb)
      have HV1_7 := Lib.hid (HV1_6.out.keep hb)
      have HV2_7 := Lib.hid (HV2_6.out.keep hb)
      have HV3_7 := Lib.hid (HV3_6.out.keep hb)
      have HV4_7 := Lib.hid (HV4_6.out.keep hb)
      have HB_7 := Lib.hid (HB_6.out.trans (hb.mono HB_6.out.size))
      have hsz_7 := Nat.lt_of_lt_of_le hsz_6 hb.size
      clear HRg_6 HA1_6 HA2_6 HT_6 HB_6 HV1_6 HV2_6 HV3_6 HV4_6 hsz_6 hb
      go_wp2_with fail
      refine (refStuck_c A' A1' A2' c' c1' c2' g' ts' ws' _ HRg_7.out HA1_7.out HA2_7.out hcap' HZ.out.1 HZ.out.2).mono ?_
      rintro e v8 ⟨rfl, hb⟩
      have HRg_8 := Lib.hid (HRg_7.out.keep hb)
      have HA1_8 := Lib.hid (HA1_7.out.keep hb)
      have HA2_8 := Lib.hid (HA2_7.out.keep hb)
      have HT_8 := Lib.hid (HT_7.out.keep hb)
      have HV1_8 := Lib.hid (HV1_7.out.keep hb)
      have HV2_8 := Lib.hid (HV2_7.out.keep hb)
      have HV3_8 := Lib.hid (HV3_7.out.keep hb)
      have HV4_8 := Lib.hid (HV4_7.out.keep hb)
      have HB_8 := Lib.hid (HB_7.out.trans (hb.mono HB_7.out.size))
      have hsz_8 := Nat.lt_of_lt_of_le hsz_7 hb.size
      clear HRg_7 HA1_7 HA2_7 HT_7 HB_7 HV1_7 HV2_7 HV3_7 HV4_7 hsz_7 hb
      go_wp2_with fail
      refine (sameIntsE_c Q1 Q2 q1 q2 (freeO g' ts' ws') _ HV1_8.out HV2_8.out HL1.out).mono ?_
      rintro e v9 ⟨rfl, n9, rfl⟩
      go_wp2_with fail
      refine (sameIntsE_c Q3 Q4 q3 q4 (ringO g' ts' ws') _ (HV3_8.out.drewN n9) (HV4_8.out.drewN n9) HL2.out).mono ?_
      rintro e v10 ⟨rfl, n10, rfl⟩
      have hb := below_drewN (Below.refl v8.heap.size v8) (n9 + n10)
      have HF9 : Hid (Plays12 (v8.drewN (n9 + n10)) (.slice A' g'.length c') (.slice A1' ts'.length c1') (.slice A2' ws'.length c2')) := Lib.hid (by exact ⟨A', A1', A2', c', c1', c2', g', ts', ws', rfl, rfl, rfl, HRg_8.out.keep hb, HA1_8.out.keep hb, HA2_8.out.keep hb, HZ.out, hcap'⟩)
      have HT9 : Hid (TapeOk (v8.drewN (n9 + n10)) w.heap.size w1.heap.size (5000 * 2)) := Lib.hid (by exact (HT_8.out.keep hb).more (by omega))
      have HB9 : Hid (Below w.heap.size w (v8.drewN (n9 + n10))) := Lib.hid (by exact HB_8.out.trans (hb.mono HB_8.out.size))
      have hsz9 : w1.heap.size < (v8.drewN (n9 + n10)).heap.size := hsz_8
      clear HRg_8 HA1_8 HA2_8 HT_8 HB_8 HV1_8 HV2_8 HV3_8 HV4_8 hsz_8 HL1 HL2 hb
      go_wp2
      go_roundw
      case rel => exact ⟨1 + 1, by go_num, by omega, HF9, HT9, HB9, hsz9⟩
      case measure => simp [intOf]
    · clear HFi HT_0
      go_wp2
      go_ret
      exact ⟨rfl, HB_0.out⟩
end Go.Proofs.Ytfgpenekmokdiaa
