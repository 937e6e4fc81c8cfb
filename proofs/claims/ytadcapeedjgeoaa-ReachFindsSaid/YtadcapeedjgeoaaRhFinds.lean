/- ReachFinds returns true, if reach's functions keep what RhDev asks: they return what the reference's return, for all graphs, marks and vertices. -/
import Derived.Test.YtadcapeedjgeoaaRhBase
import Derived.Test.YtadcapeedjgeoaaRcRev
namespace Go.Proofs.Ytadcapeedjgeoaa
open Go Go.RowKit Fl

/-- What the loop holds: a graph, marks, a vertex, and the tape. -/
def FindsAt (w : World) (raw cl v : Value) : Prop := ∃ (A B : Option Addr) (c d : Nat) (g : GraphD) (s : List Bool) (x : Int), raw = .slice A g.length c ∧ cl = .slice B s.length d ∧ v = .int .i64 x ∧ RowsAt w A g ∧ Holds w B (s.map Bo) ∧ Sized g ∧ s.length ≤ 1000000000000000000
theorem FindsAt.keep {w w' : World} {raw cl v : Value} (h : FindsAt w raw cl v) (hb : Below w.heap.size w w') : FindsAt w' raw cl v := by
  obtain ⟨A, B, c, d, g, s, x, h1, h2, h3, h4, h5, h6⟩ := h
  exact ⟨A, B, c, d, g, s, x, h1, h2, h3, h4.keep hb, h5.keep hb, h6⟩
theorem WoPost.res {w w' : World} {l : GraphD} {k : Int} {e : Ending} (h : WoPost w l k e w') : GraphRes w l k e w' := by
  obtain ⟨u, rfl, ho, hb⟩ := h
  obtain ⟨A, c, rfl, hr⟩ := ho.at_
  exact ⟨A, c, rfl, hr, hb⟩
theorem FromPost.res {w w' : World} {l : List Bool} {k : Int} {e : Ending} (h : FromPost w l k e w') : FromRes w l k e w' := by
  obtain ⟨u, rfl, ho, hb⟩ := h
  obtain ⟨A, c, rfl, hr⟩ := own_is ho
  exact ⟨A, c, rfl, hr, hb⟩
theorem sized_sub {g r : GraphD} (h : r = [] ∨ validG r = true) (_ : Sized g) : Sized r := by
  rcases h with rfl | h
  · exact ⟨by simp, by simp⟩
  · exact Sized.valid h
theorem revL_sized (g : GraphD) : Sized (revL g) := by
  unfold revL
  rcases h : validG g with _ | _
  · exact ⟨by simp, by simp⟩
  · exact Sized.valid (revG_valid h)
theorem woL_sized (g : GraphD) (s : List Bool) : Sized (woL g s) := by
  unfold woL
  split
  · rename_i h
    rcases chkG_cases g s.length with h1 | h1 | h1
    · exact Sized.valid (woG_valid h1.2.1)
    · omega
    · omega
  · exact ⟨by simp, by simp⟩
theorem fromL_sized {g : GraphD} (hg : Sized g) (s : List Bool) (v : Int) : (fromL g s v).length ≤ 1000000000000000000 := by
  unfold fromL
  split
  · rw [reachL_length]; exact hg.1
  · simp
set_option maxRecDepth 100000 in
set_option maxHeartbeats 8000000 in
theorem reachFinds_c (hF : DevFrom) (hM : DevMutual) (hV : DevValid) (hR : DevReverse) (hW : DevWithout) (A B C : Option Addr) (c d k : Nat) (g : GraphD) (s : List Bool) (v : Int) (zs : List Int) (w : World) (hg : RowsAt w A g) (hs : Holds w B (s.map Bo)) (hz : IntsAt w w.heap.size C zs) (hzl : zs.length ≤ maxLen) (hsz : Sized g) (hsl : s.length ≤ 1000000000000000000) :
    Calls Try.prog 3 #[.slice A g.length c, .slice B s.length d, .int .i64 v, .slice C zs.length k] w fun e w' => e = .returned (.bool true) ∧ Below w.heap.size w w' := by
  have CK := Lib.hid (known4_c hF hM hV w)
  have HF := Lib.hid hF
  have HM := Lib.hid hM
  have HV := Lib.hid hV
  have HR := Lib.hid hR
  have HW := Lib.hid hW
  have H0 : Hid (FindsAt w (.slice A g.length c) (.slice B s.length d) (.int .i64 v)) := Lib.hid ⟨A, B, c, d, g, s, v, rfl, rfl, rfl, hg, hs, hsz, hsl⟩
  have HZ := Lib.hid hz
  have HL := Lib.hid hzl
  clear hF hM hV hR hW hg hs hz hzl hsz hsl
  go_enter Try.func3, Try.ntmps3
  go_wp2_with fail
  refine CK.out.mono ?_
  rintro e w1 ⟨rfl, hb1⟩
  have ht := tape_new (c := k) HZ.out (Nat.le_refl _) hb1 HL.out
  have hb2 : Below w.heap.size w (w1.alloc (.cells #[.slice C zs.length k, .int .i64 0] 28)) := hb1.alloc hb1.size _
  have HT2 := Lib.hid ht
  have H2 := Lib.hid (H0.out.keep hb2)
  have hgB : w.heap.size ≤ w1.heap.size := hb1.size
  have HB2 := Lib.hid hb2
  have hsz2 : w1.heap.size < (w1.alloc (.cells #[.slice C zs.length k, .int .i64 0] 28)).heap.size := by simp
  clear hb1 ht hb2 H0 CK HZ HL
  go_wp2
  go_loopw [0, 1, 2, 10] (fun raw cl vv i wr => ∃ n : Nat, i = .int .i64 n ∧ n ≤ 2 ∧ Hid (FindsAt wr raw cl vv) ∧ Hid (TapeOk wr w.heap.size w1.heap.size (5000 * n)) ∧ Hid (Below w.heap.size w wr) ∧ w1.heap.size < wr.heap.size) (fun _ _ _ i _ => 2 - (intOf i).toNat)
  case atStart => exact ⟨0, rfl, by omega, H2, HT2, HB2, hsz2⟩
  case round =>
    clear HT2 H2 HB2 hsz2
    obtain ⟨n, rfl, hn, HFi, HT, HB, hsz⟩ := hrel
    have hcase : n = 0 ∨ n = 1 ∨ n = 2 := by omega
    clear hn
    rcases hcase with rfl | rfl | rfl
    · obtain ⟨A', B', c', d', g', s', x', rfl, rfl, rfl, hg', hs', hz', hsl'⟩ := HFi.out
      clear HFi
      have HRg := Lib.hid hg'
      have HSs := Lib.hid hs'
      have HZ := Lib.hid hz'
      clear hg' hs' hz'
      go_wp2_with fail
      refine (HR.out A' c' g' _ HRg.out HZ.out).mono ?_
      rintro e w10 ⟨Ar, cr, rfl, hr10, hb10⟩
      have HRg10 := Lib.hid (HRg.out.keep hb10)
      have HSs10 := Lib.hid (HSs.out.keep hb10)
      have HT10 := Lib.hid (HT.out.keep hb10)
      have HB10 := Lib.hid (HB.out.trans (hb10.mono HB.out.size))
      have hsz10 := Nat.lt_of_lt_of_le hsz hb10.size
      have HA10 := Lib.hid hr10
      clear HRg HSs HT HB hr10 hb10 hsz
      go_wp2_with fail
      refine (refReverse_c A' c' g' _ HRg10.out HZ.out.1 HZ.out.2).mono ?_
      rintro e w11 hp
      obtain ⟨As, cs, rfl, hr11, hb11⟩ := hp.res
      have HRg11 := Lib.hid (HRg10.out.keep hb11)
      have HSs11 := Lib.hid (HSs10.out.keep hb11)
      have HT11 := Lib.hid (HT10.out.keep hb11)
      have HB11 := Lib.hid (HB10.out.trans (hb11.mono HB10.out.size))
      have hsz11 := Nat.lt_of_lt_of_le hsz10 hb11.size
      have HA11 := Lib.hid (HA10.out.keep hb11)
      have HC11 := Lib.hid hr11
      clear HRg10 HSs10 HT10 HB10 HA10 hr11 hb11 hp hsz10
      go_wp2_with fail
      refine (HF.out A' B' c' d' g' s' x' _ HRg11.out HSs11.out HZ.out).mono ?_
      rintro e w12 ⟨Af, cf, rfl, hr12, hb12⟩
      have HRg12 := Lib.hid (HRg11.out.keep hb12)
      have HSs12 := Lib.hid (HSs11.out.keep hb12)
      have HT12 := Lib.hid (HT11.out.keep hb12)
      have HB12 := Lib.hid (HB11.out.trans (hb12.mono HB11.out.size))
      have hsz12 := Nat.lt_of_lt_of_le hsz11 hb12.size
      have HA12 := Lib.hid (HA11.out.keep hb12)
      have HC12 := Lib.hid (HC11.out.keep hb12)
      have HD12 := Lib.hid hr12
      clear HRg11 HSs11 HT11 HB11 HA11 HC11 hr12 hb12 hsz11
      go_wp2_with fail
      refine (refFrom_c A' B' c' d' g' s' x' _ HRg12.out HSs12.out HZ.out.1 HZ.out.2).mono ?_
      rintro e w13 hp
      obtain ⟨Ag, cg, rfl, hr13, hb13⟩ := hp.res
      have HRg13 := Lib.hid (HRg12.out.keep hb13)
      have HSs13 := Lib.hid (HSs12.out.keep hb13)
      have HT13 := Lib.hid (HT12.out.keep hb13)
      have HB13 := Lib.hid (HB12.out.trans (hb13.mono HB12.out.size))
      have hsz13 := Nat.lt_of_lt_of_le hsz12 hb13.size
      have HA13 := Lib.hid (HA12.out.keep hb13)
      have HC13 := Lib.hid (HC12.out.keep hb13)
      have HD13 := Lib.hid (HD12.out.keep hb13)
      have HE13 := Lib.hid hr13
      clear HRg12 HSs12 HT12 HB12 HA12 HC12 HD12 hr13 hb13 hp hsz12
      go_wp2_with fail
      refine (HV.out A' c' g' _ HRg13.out HZ.out).mono ?_
      rintro e w14 ⟨rfl, hb14⟩
      have HRg14 := Lib.hid (HRg13.out.keep hb14)
      have HSs14 := Lib.hid (HSs13.out.keep hb14)
      have HT14 := Lib.hid (HT13.out.keep hb14)
      have HB14 := Lib.hid (HB13.out.trans (hb14.mono HB13.out.size))
      have hsz14 := Nat.lt_of_lt_of_le hsz13 hb14.size
      have HA14 := Lib.hid (HA13.out.keep hb14)
      have HC14 := Lib.hid (HC13.out.keep hb14)
      have HD14 := Lib.hid (HD13.out.keep hb14)
      have HE14 := Lib.hid (HE13.out.keep hb14)
      clear HRg13 HSs13 HT13 HB13 HA13 HC13 HD13 HE13 hb14 hsz13
      have hq1 : (validG g' != validG g') = false := by simp
      have hq2 : (revE g' != revE g') = false := by simp
      have hq3 : (fromE g' s'.length x' != fromE g' s'.length x') = false := by simp
      have HLr := Lib.hid (revL_sized g')
      have HLf := Lib.hid (fromL_sized HZ.out s' x')
      go_wp2_with fail
      refine (refGValid_c A' c' g' _ HRg14.out HZ.out.1 HZ.out.2).mono ?_
      rintro e w15 ⟨rfl, rfl⟩
      go_wp2_with fail
      refine (sameListsE_c Ar As cr cs (revL g') _ HA14.out HC14.out HLr.out.1 HLr.out.2).mono ?_
      rintro e w16 ⟨rfl, n1, rfl⟩
      go_wp2_with fail
      refine (sameBoolsE_c Af Ag cf cg (fromL g' s' x') _ (HD14.out.drewN n1) (HE14.out.drewN n1) HLf.out).mono ?_
      rintro e w17 ⟨rfl, n2, rfl⟩
      have hb18 := below_drewN (below_drewN (Below.refl w14.heap.size w14) n1) n2
      have HRg18 := Lib.hid (HRg14.out.keep hb18)
      have HSs18 := Lib.hid (HSs14.out.keep hb18)
      have HT18 := Lib.hid (HT14.out.keep hb18)
      have HB18 := Lib.hid (HB14.out.trans (hb18.mono HB14.out.size))
      have hsz18 := Nat.lt_of_lt_of_le hsz14 hb18.size
      clear HRg14 HSs14 HT14 HB14 HA14 HC14 HD14 HE14 HLr HLf hb18 hsz14
      generalize (w14.drewN n1).drewN n2 = w18 at *
      go_wp2_with fail
      refine (HM.out A' B' c' d' g' s' _ HRg18.out HSs18.out HZ.out).mono ?_
      rintro e w19 ⟨rfl, hb19⟩
      have HRg19 := Lib.hid (HRg18.out.keep hb19)
      have HSs19 := Lib.hid (HSs18.out.keep hb19)
      have HT19 := Lib.hid (HT18.out.keep hb19)
      have HB19 := Lib.hid (HB18.out.trans (hb19.mono HB18.out.size))
      have hsz19 := Nat.lt_of_lt_of_le hsz18 hb19.size
      clear HRg18 HSs18 HT18 HB18 hb19 hsz18
      go_wp2_with fail
      refine (refMutual_c A' B' c' d' g' s' _ HRg19.out HSs19.out HZ.out.1 HZ.out.2).mono ?_
      rintro e w20 ⟨rfl, hb20⟩
      have HRg20 := Lib.hid (HRg19.out.keep hb20)
      have HSs20 := Lib.hid (HSs19.out.keep hb20)
      have HT20 := Lib.hid (HT19.out.keep hb20)
      have HB20 := Lib.hid (HB19.out.trans (hb20.mono HB19.out.size))
      have hsz20 := Nat.lt_of_lt_of_le hsz19 hb20.size
      clear HRg19 HSs19 HT19 HB19 hb20 hsz19
      go_wp2_with fail
      refine (HW.out A' B' c' d' g' s' _ HRg20.out HSs20.out HZ.out).mono ?_
      rintro e w21 ⟨Ax, cx, rfl, hr21, hb21⟩
      have HRg21 := Lib.hid (HRg20.out.keep hb21)
      have HSs21 := Lib.hid (HSs20.out.keep hb21)
      have HT21 := Lib.hid (HT20.out.keep hb21)
      have HB21 := Lib.hid (HB20.out.trans (hb21.mono HB20.out.size))
      have hsz21 := Nat.lt_of_lt_of_le hsz20 hb21.size
      have HX21 := Lib.hid hr21
      clear HRg20 HSs20 HT20 HB20 hr21 hb21 hsz20
      go_wp2_with fail
      refine (refWithout_c A' B' c' d' g' s' _ HRg21.out HSs21.out HZ.out.1 HZ.out.2).mono ?_
      rintro e w22 hp
      obtain ⟨Ay, cy, rfl, hr22, hb22⟩ := hp.res
      have HRg22 := Lib.hid (HRg21.out.keep hb22)
      have HSs22 := Lib.hid (HSs21.out.keep hb22)
      have HT22 := Lib.hid (HT21.out.keep hb22)
      have HB22 := Lib.hid (HB21.out.trans (hb22.mono HB21.out.size))
      have hsz22 := Nat.lt_of_lt_of_le hsz21 hb22.size
      have HX22 := Lib.hid (HX21.out.keep hb22)
      have HY22 := Lib.hid hr22
      clear HRg21 HSs21 HT21 HB21 HX21 hr22 hb22 hp hsz21
      have hq4 : (mutB g' s' != mutB g' s') = false := by simp
      have hq5 : (chkG g' s'.length != chkG g' s'.length) = false := by simp
      have HLw := Lib.hid (woL_sized g' s')
      go_wp2_with fail
      refine (sameListsE_c Ax Ay cx cy (woL g' s') _ HX22.out HY22.out HLw.out.1 HLw.out.2).mono ?_
      rintro e w23 ⟨rfl, n3, rfl⟩
      have hb24 := below_drewN (Below.refl w22.heap.size w22) n3
      have HF24 : Hid (FindsAt (w22.drewN n3) (.slice A' g'.length c') (.slice B' s'.length d') (.int .i64 x')) := Lib.hid ⟨A', B', c', d', g', s', x', rfl, rfl, rfl, HRg22.out.keep hb24, HSs22.out.keep hb24, HZ.out, hsl'⟩
      have HT24 := Lib.hid ((HT22.out.keep hb24).more (show _ ≤ 5000 * 1 by omega))
      have HB24 := Lib.hid (HB22.out.trans (hb24.mono HB22.out.size))
      have hsz24 := Nat.lt_of_lt_of_le hsz22 hb24.size
      clear HRg22 HSs22 HT22 HB22 HX22 HY22 hsz22 HLw hb24
      generalize w22.drewN n3 = w24 at *
      go_wp2
      go_roundw
      case rel => exact ⟨0 + 1, by go_num, by omega, HF24, HT24, HB24, hsz24⟩
      case measure => simp [intOf]
    · clear HFi
      go_wp2_with fail
      refine (graph_c w.heap.size w1.heap.size _ 10 wr HT.out (by omega) (by omega) hsz).mono ?_
      rintro e w3 ⟨gv, g', rfl, hg10, hok, hown3, ht3, hst3⟩
      obtain ⟨A', c', rfl, _⟩ := hown3.at_
      have hv' := hok.valid (by omega)
      have HT3 := Lib.hid ht3
      have HO3 := Lib.hid hown3
      have HB3 := Lib.hid (HB.out.trans (hst3.below HB.out.size hgB))
      have hsz3 := Nat.lt_of_lt_of_le hsz hst3.size
      clear hok ht3 hown3 hst3 HT HB
      go_wp2_with fail
      refine (shut_c w.heap.size w1.heap.size _ g'.length w3 HT3.out (by omega) (by omega) hsz3).mono ?_
      rintro e w4 ⟨sv, s', rfl, hsl4, hos4, ht4, hst4⟩
      obtain ⟨B', d', rfl⟩ : ∃ B' d', sv = .slice B' s'.length d' := by
        obtain ⟨B1, d1, h, _⟩ := own_is hos4
        exact ⟨B1, d1, by rw [hsl4]; exact h⟩
      have HSL := Lib.hid hsl4
      clear hsl4
      have HT4 := Lib.hid ht4
      have HO4 := Lib.hid (HO3.out.but hst4.grown hsz)
      have HS4 := Lib.hid hos4
      have HB4 := Lib.hid (HB3.out.trans (hst4.below HB3.out.size hgB))
      have hsz4 := Nat.lt_of_lt_of_le hsz3 hst4.size
      clear HT3 HO3 HB3 ht4 hos4 hst4
      have CN : Hid (Calls Try.prog 11 #[.pointer (some ⟨w1.heap.size, 0, none⟩), .int .i64 g'.length] w4 fun e w' => ∃ r : Nat, e = .returned (.int .i64 r) ∧ TapeOk w' w.heap.size w1.heap.size (5000 * 1 + 1000 + 1000 + 1) ∧ w4.grownBy w' (some w1.heap.size)) := Lib.hid (by
        rcases Nat.eq_zero_or_pos g'.length with h0 | h0
        · exact (next0_c _ _ _ _ w4 HT4.out (by omega) (by omega) (by omega)).mono fun e w' ⟨r, _, h⟩ => ⟨r, h⟩
        · exact (next_c _ _ _ _ w4 HT4.out (by omega) (by omega) (by omega)).mono fun e w' ⟨r, _, h⟩ => ⟨r, h⟩)
      go_wp2_with fail
      refine CN.out.mono ?_
      rintro e w5 ⟨x0, rfl, ht5, hg5⟩
      have hst5 : Still w1.heap.size w4.heap.size w4 w5 := Still.of_grown hg5 (Nat.le_refl _)
      obtain ⟨A2, c2, e2, hg'⟩ := (HO4.out.but hg5 hsz).at_
      obtain ⟨B2, d2, e3, hs'⟩ := own_is (own_but HS4.out hg5 hsz3)
      injection e2 with e21 e2m e22
      injection e3 with e31 e3m e32
      clear e2m e3m
      subst e21 e22 e31 e32
      have HT := Lib.hid ht5
      have HB := Lib.hid (HB4.out.trans (hst5.below HB4.out.size hgB))
      have hsz := Nat.lt_of_lt_of_le hsz4 hg5.size
      have hz' := Sized.valid hv'
      have hsl' : s'.length ≤ 1000000000000000000 := by rw [HSL.out]; omega
      obtain ⟨x', hx'⟩ : ∃ x' : Int, (x0 : Int) = x' := ⟨_, rfl⟩
      rw [hx'] at *
      clear CN HT4 HO4 HS4 HB4 ht5 hg5 hst5 hv' hg10 hx' HSL
      have HRg := Lib.hid hg'
      have HSs := Lib.hid hs'
      have HZ := Lib.hid hz'
      clear hg' hs' hz'
      go_wp2_with fail
      refine (HR.out A' c' g' _ HRg.out HZ.out).mono ?_
      rintro e w10 ⟨Ar, cr, rfl, hr10, hb10⟩
      have HRg10 := Lib.hid (HRg.out.keep hb10)
      have HSs10 := Lib.hid (HSs.out.keep hb10)
      have HT10 := Lib.hid (HT.out.keep hb10)
      have HB10 := Lib.hid (HB.out.trans (hb10.mono HB.out.size))
      have hsz10 := Nat.lt_of_lt_of_le hsz hb10.size
      have HA10 := Lib.hid hr10
      clear HRg HSs HT HB hr10 hb10 hsz
      go_wp2_with fail
      refine (refReverse_c A' c' g' _ HRg10.out HZ.out.1 HZ.out.2).mono ?_
      rintro e w11 hp
      obtain ⟨As, cs, rfl, hr11, hb11⟩ := hp.res
      have HRg11 := Lib.hid (HRg10.out.keep hb11)
      have HSs11 := Lib.hid (HSs10.out.keep hb11)
      have HT11 := Lib.hid (HT10.out.keep hb11)
      have HB11 := Lib.hid (HB10.out.trans (hb11.mono HB10.out.size))
      have hsz11 := Nat.lt_of_lt_of_le hsz10 hb11.size
      have HA11 := Lib.hid (HA10.out.keep hb11)
      have HC11 := Lib.hid hr11
      clear HRg10 HSs10 HT10 HB10 HA10 hr11 hb11 hp hsz10
      go_wp2_with fail
      refine (HF.out A' B' c' d' g' s' x' _ HRg11.out HSs11.out HZ.out).mono ?_
      rintro e w12 ⟨Af, cf, rfl, hr12, hb12⟩
      have HRg12 := Lib.hid (HRg11.out.keep hb12)
      have HSs12 := Lib.hid (HSs11.out.keep hb12)
      have HT12 := Lib.hid (HT11.out.keep hb12)
      have HB12 := Lib.hid (HB11.out.trans (hb12.mono HB11.out.size))
      have hsz12 := Nat.lt_of_lt_of_le hsz11 hb12.size
      have HA12 := Lib.hid (HA11.out.keep hb12)
      have HC12 := Lib.hid (HC11.out.keep hb12)
      have HD12 := Lib.hid hr12
      clear HRg11 HSs11 HT11 HB11 HA11 HC11 hr12 hb12 hsz11
      go_wp2_with fail
      refine (refFrom_c A' B' c' d' g' s' x' _ HRg12.out HSs12.out HZ.out.1 HZ.out.2).mono ?_
      rintro e w13 hp
      obtain ⟨Ag, cg, rfl, hr13, hb13⟩ := hp.res
      have HRg13 := Lib.hid (HRg12.out.keep hb13)
      have HSs13 := Lib.hid (HSs12.out.keep hb13)
      have HT13 := Lib.hid (HT12.out.keep hb13)
      have HB13 := Lib.hid (HB12.out.trans (hb13.mono HB12.out.size))
      have hsz13 := Nat.lt_of_lt_of_le hsz12 hb13.size
      have HA13 := Lib.hid (HA12.out.keep hb13)
      have HC13 := Lib.hid (HC12.out.keep hb13)
      have HD13 := Lib.hid (HD12.out.keep hb13)
      have HE13 := Lib.hid hr13
      clear HRg12 HSs12 HT12 HB12 HA12 HC12 HD12 hr13 hb13 hp hsz12
      go_wp2_with fail
      refine (HV.out A' c' g' _ HRg13.out HZ.out).mono ?_
      rintro e w14 ⟨rfl, hb14⟩
      have HRg14 := Lib.hid (HRg13.out.keep hb14)
      have HSs14 := Lib.hid (HSs13.out.keep hb14)
      have HT14 := Lib.hid (HT13.out.keep hb14)
      have HB14 := Lib.hid (HB13.out.trans (hb14.mono HB13.out.size))
      have hsz14 := Nat.lt_of_lt_of_le hsz13 hb14.size
      have HA14 := Lib.hid (HA13.out.keep hb14)
      have HC14 := Lib.hid (HC13.out.keep hb14)
      have HD14 := Lib.hid (HD13.out.keep hb14)
      have HE14 := Lib.hid (HE13.out.keep hb14)
      clear HRg13 HSs13 HT13 HB13 HA13 HC13 HD13 HE13 hb14 hsz13
      have hq1 : (validG g' != validG g') = false := by simp
      have hq2 : (revE g' != revE g') = false := by simp
      have hq3 : (fromE g' s'.length x' != fromE g' s'.length x') = false := by simp
      have HLr := Lib.hid (revL_sized g')
      have HLf := Lib.hid (fromL_sized HZ.out s' x')
      go_wp2_with fail
      refine (refGValid_c A' c' g' _ HRg14.out HZ.out.1 HZ.out.2).mono ?_
      rintro e w15 ⟨rfl, rfl⟩
      go_wp2_with fail
      refine (sameListsE_c Ar As cr cs (revL g') _ HA14.out HC14.out HLr.out.1 HLr.out.2).mono ?_
      rintro e w16 ⟨rfl, n1, rfl⟩
      go_wp2_with fail
      refine (sameBoolsE_c Af Ag cf cg (fromL g' s' x') _ (HD14.out.drewN n1) (HE14.out.drewN n1) HLf.out).mono ?_
      rintro e w17 ⟨rfl, n2, rfl⟩
      have hb18 := below_drewN (below_drewN (Below.refl w14.heap.size w14) n1) n2
      have HRg18 := Lib.hid (HRg14.out.keep hb18)
      have HSs18 := Lib.hid (HSs14.out.keep hb18)
      have HT18 := Lib.hid (HT14.out.keep hb18)
      have HB18 := Lib.hid (HB14.out.trans (hb18.mono HB14.out.size))
      have hsz18 := Nat.lt_of_lt_of_le hsz14 hb18.size
      clear HRg14 HSs14 HT14 HB14 HA14 HC14 HD14 HE14 HLr HLf hb18 hsz14
      generalize (w14.drewN n1).drewN n2 = w18 at *
      go_wp2_with fail
      refine (HM.out A' B' c' d' g' s' _ HRg18.out HSs18.out HZ.out).mono ?_
      rintro e w19 ⟨rfl, hb19⟩
      have HRg19 := Lib.hid (HRg18.out.keep hb19)
      have HSs19 := Lib.hid (HSs18.out.keep hb19)
      have HT19 := Lib.hid (HT18.out.keep hb19)
      have HB19 := Lib.hid (HB18.out.trans (hb19.mono HB18.out.size))
      have hsz19 := Nat.lt_of_lt_of_le hsz18 hb19.size
      clear HRg18 HSs18 HT18 HB18 hb19 hsz18
      go_wp2_with fail
      refine (refMutual_c A' B' c' d' g' s' _ HRg19.out HSs19.out HZ.out.1 HZ.out.2).mono ?_
      rintro e w20 ⟨rfl, hb20⟩
      have HRg20 := Lib.hid (HRg19.out.keep hb20)
      have HSs20 := Lib.hid (HSs19.out.keep hb20)
      have HT20 := Lib.hid (HT19.out.keep hb20)
      have HB20 := Lib.hid (HB19.out.trans (hb20.mono HB19.out.size))
      have hsz20 := Nat.lt_of_lt_of_le hsz19 hb20.size
      clear HRg19 HSs19 HT19 HB19 hb20 hsz19
      go_wp2_with fail
      refine (HW.out A' B' c' d' g' s' _ HRg20.out HSs20.out HZ.out).mono ?_
      rintro e w21 ⟨Ax, cx, rfl, hr21, hb21⟩
      have HRg21 := Lib.hid (HRg20.out.keep hb21)
      have HSs21 := Lib.hid (HSs20.out.keep hb21)
      have HT21 := Lib.hid (HT20.out.keep hb21)
      have HB21 := Lib.hid (HB20.out.trans (hb21.mono HB20.out.size))
      have hsz21 := Nat.lt_of_lt_of_le hsz20 hb21.size
      have HX21 := Lib.hid hr21
      clear HRg20 HSs20 HT20 HB20 hr21 hb21 hsz20
      go_wp2_with fail
      refine (refWithout_c A' B' c' d' g' s' _ HRg21.out HSs21.out HZ.out.1 HZ.out.2).mono ?_
      rintro e w22 hp
      obtain ⟨Ay, cy, rfl, hr22, hb22⟩ := hp.res
      have HRg22 := Lib.hid (HRg21.out.keep hb22)
      have HSs22 := Lib.hid (HSs21.out.keep hb22)
      have HT22 := Lib.hid (HT21.out.keep hb22)
      have HB22 := Lib.hid (HB21.out.trans (hb22.mono HB21.out.size))
      have hsz22 := Nat.lt_of_lt_of_le hsz21 hb22.size
      have HX22 := Lib.hid (HX21.out.keep hb22)
      have HY22 := Lib.hid hr22
      clear HRg21 HSs21 HT21 HB21 HX21 hr22 hb22 hp hsz21
      have hq4 : (mutB g' s' != mutB g' s') = false := by simp
      have hq5 : (chkG g' s'.length != chkG g' s'.length) = false := by simp
      have HLw := Lib.hid (woL_sized g' s')
      go_wp2_with fail
      refine (sameListsE_c Ax Ay cx cy (woL g' s') _ HX22.out HY22.out HLw.out.1 HLw.out.2).mono ?_
      rintro e w23 ⟨rfl, n3, rfl⟩
      have hb24 := below_drewN (Below.refl w22.heap.size w22) n3
      have HF24 : Hid (FindsAt (w22.drewN n3) (.slice A' g'.length c') (.slice B' s'.length d') (.int .i64 x')) := Lib.hid ⟨A', B', c', d', g', s', x', rfl, rfl, rfl, HRg22.out.keep hb24, HSs22.out.keep hb24, HZ.out, hsl'⟩
      have HT24 := Lib.hid ((HT22.out.keep hb24).more (show _ ≤ 5000 * 2 by omega))
      have HB24 := Lib.hid (HB22.out.trans (hb24.mono HB22.out.size))
      have hsz24 := Nat.lt_of_lt_of_le hsz22 hb24.size
      clear HRg22 HSs22 HT22 HB22 HX22 HY22 hsz22 HLw hb24
      generalize w22.drewN n3 = w24 at *
      go_wp2
      go_roundw
      case rel => exact ⟨1 + 1, by go_num, by omega, HF24, HT24, HB24, hsz24⟩
      case measure => simp [intOf]
    · clear HFi HT
      go_wp2
      go_ret
      exact ⟨rfl, HB.out⟩
end Go.Proofs.Ytadcapeedjgeoaa
