/- RoutesPaths, under contracts that the developers' code must still give. -/
import Derived.Test.YtcfnilemikenhaaRtBase
import Derived.Test.YtcfnilemikenhaaRtPathP
namespace Go.Proofs.Ytcfnilemikenhaa
open Go Go.RowKit Fl

set_option maxRecDepth 100000 in
set_option maxHeartbeats 40000000 in
theorem routesPaths_c (hD : DevDist) (hH : DevHops) (hP : DevPath) (hT : DevTable) (hF : DevFrom) (C : Option Addr) (k : Nat) (zs : List Int) (w : World) (hz : IntsAt w w.heap.size C zs) (hzl : zs.length ≤ maxLen) :
    Calls Try.prog 4 #[.slice C zs.length k] w fun e w' => e = .returned (.bool true) ∧ Below w.heap.size w w' := by
  have CK := Lib.hid (known7_c hD hH hP hT w)
  have HDi := Lib.hid hD
  have HHo := Lib.hid hH
  have HPa := Lib.hid hP
  have HFr := Lib.hid hF
  have HZ := Lib.hid hz
  have HL := Lib.hid hzl
  clear hD hH hP hT hF hz hzl
  go_enter Try.func4, Try.ntmps4
  go_wp2_with fail
  refine CK.out.mono ?_
  rintro e w1 ⟨rfl, hb1⟩
  have ht := tape_new (c := k) HZ.out (Nat.le_refl _) hb1 HL.out
  have hb2 : Below w.heap.size w (w1.alloc (.cells #[.slice C zs.length k, .int .i64 0] 29)) := hb1.alloc hb1.size _
  have HT2 := Lib.hid ht
  have hgB : w.heap.size ≤ w1.heap.size := hb1.size
  have HB2 := Lib.hid hb2
  have hsz2 : w1.heap.size < (w1.alloc (.cells #[.slice C zs.length k, .int .i64 0] 29)).heap.size := by simp
  clear hb1 ht hb2 CK HZ HL
  go_wp2_with fail
  refine (graph_c w.heap.size w1.heap.size _ 9 _ HT2.out (by omega) (by omega) hsz2).mono ?_
  rintro e w3 ⟨gv, g, rfl, hgl, hok, hown3, ht3, hst3⟩
  obtain ⟨A, c, rfl, _⟩ := hown3.at_
  have HV := Lib.hid (hok.valid (by omega))
  have HT3 := Lib.hid ht3
  have HO3 := Lib.hid hown3
  have HB3 := Lib.hid (HB2.out.trans (hst3.below HB2.out.size hgB))
  have hsz3 := Nat.lt_of_lt_of_le hsz2 hst3.size
  generalize w1.alloc (.cells #[.slice C zs.length k, .int .i64 0] 29) = w2 at *
  clear hok ht3 hown3 hst3 HT2 HB2
  rcases Nat.eq_zero_or_pos g.length with h00 | hgp
  · rw [h00]
    go_wp2
    go_ret
    exact ⟨rfl, HB3.out⟩
  go_wp2_with fail
  refine (shut_c w.heap.size w1.heap.size _ g.length w3 HT3.out (by omega) (by omega) hsz3).mono ?_
  rintro e w4 ⟨sv, s, rfl, hsl4, hos4, ht4, hst4⟩
  obtain ⟨B, d, rfl, hs4⟩ := own_is hos4
  have HSL := Lib.hid hsl4
  have HT4 := Lib.hid ht4
  have HO4 := Lib.hid (HO3.out.but hst4.grown hsz2)
  have HS4 := Lib.hid hos4
  have HB4 := Lib.hid (HB3.out.trans (hst4.below HB3.out.size hgB))
  have hsz4 := Nat.lt_of_lt_of_le hsz3 hst4.size
  clear HT3 HO3 HB3 hsl4 ht4 hos4 hs4 hst4
  have hsB := hgB
  go_wp2_with fail
  refine (next_c w.heap.size w1.heap.size _ (g.length : Int) w4 HT4.out (by omega) (by omega) (by omega)).mono ?_
  rintro e w5 ⟨v, hv, rfl, ht5, hg5⟩
  have HT5 := Lib.hid ht5
  have HO5 := Lib.hid (HO4.out.but hg5 hsz2)
  have HS5 := Lib.hid (own_but HS4.out hg5 hsz3)
  have HB5 := Lib.hid (HB4.out.grown hg5 HB4.out.size (fun k hk => by injection hk with hk; omega))
  have hsz5 := Nat.lt_of_lt_of_le hsz4 hg5.size
  clear HT4 HO4 HS4 HB4 ht5 hg5
  go_wp2_with fail
  refine (next_c w.heap.size w1.heap.size _ (g.length : Int) w5 HT5.out (by omega) (by omega) (by omega)).mono ?_
  rintro e w6 ⟨goal, hgoal, rfl, ht6, hg6⟩
  have HB6 := Lib.hid (HB5.out.grown hg6 HB5.out.size (fun k hk => by injection hk with hk; omega))
  have HRg : Hid (RowsAt w6 A g) := Lib.hid (by
    obtain ⟨A2, c2, h1, h2⟩ := (HO5.out.but hg6 hsz2).at_
    injection h1 with h1
    subst h1
    exact h2)
  have HSs : Hid (Holds w6 B (s.map Bo)) := Lib.hid (by
    obtain ⟨A2, c2, h1, h2⟩ := own_is (own_but HS5.out hg6 hsz3)
    injection h1 with h1
    subst h1
    exact h2)
  have hvn : v < g.length := by omega
  have hgn : goal < g.length := by omega
  clear HT5 HO5 HS5 HB5 ht6 hg6 hgB hsB hsz4 hsz5 hv hgoal
  go_wp2_with fail
  refine (path_ok HPa.out (n := g.length) HRg.out HSs.out HV.out rfl HSL.out hvn hgn).mono ?_
  rintro e w7 ⟨Xp, cp, rfl, hp7, hb7⟩
  have HP7 := Lib.hid hp7
  have HR7 := Lib.hid (HRg.out.keep hb7)
  have HS7 := Lib.hid (HSs.out.keep hb7)
  have HB7 := Lib.hid (HB6.out.trans (hb7.mono HB6.out.size))
  clear hp7 hb7 HRg HSs HB6 HPa
  go_wp2_with fail
  refine (dist_ok HDi.out (n := g.length) HR7.out HS7.out HV.out rfl HSL.out hgn).mono ?_
  rintro e w8 ⟨Xd, cd, rfl, hd8, hb8⟩
  have HD8 := Lib.hid hd8
  have HP8 := Lib.hid (HP7.out.keep hb8)
  have HR8 := Lib.hid (HR7.out.keep hb8)
  have HS8 := Lib.hid (HS7.out.keep hb8)
  have HB8 := Lib.hid (HB7.out.trans (hb8.mono HB7.out.size))
  clear hd8 hb8 HP7 HR7 HS7 HB7 HDi
  go_wp2_with fail
  refine (hops_ok HHo.out (n := g.length) HR8.out HS8.out HV.out rfl HSL.out hgn).mono ?_
  rintro e w9 ⟨Xh, ch, rfl, hh9, hb9⟩
  have HH9 := Lib.hid hh9
  have HD9 := Lib.hid (HD8.out.keep hb9)
  have HP9 := Lib.hid (HP8.out.keep hb9)
  have HR9 := Lib.hid (HR8.out.keep hb9)
  have HS9 := Lib.hid (HS8.out.keep hb9)
  have HB9 := Lib.hid (HB8.out.trans (hb9.mono HB8.out.size))
  clear hh9 hb9 HD8 HP8 HR8 HS8 HB8 HHo
  go_wp2_with fail
  refine (from_ok HFr.out (n := g.length) HR9.out HS9.out HV.out rfl HSL.out hvn).mono ?_
  rintro e wA ⟨Xr, cr, rfl, hr, hbA⟩
  have HRr := Lib.hid hr
  have HH := Lib.hid (HH9.out.keep hbA)
  have HD := Lib.hid (HD9.out.keep hbA)
  have HP := Lib.hid (HP9.out.keep hbA)
  have HR := Lib.hid (HR9.out.keep hbA)
  have HS := Lib.hid (HS9.out.keep hbA)
  have HB := Lib.hid (HB9.out.trans (hbA.mono HB9.out.size))
  clear hr hbA HH9 HD9 HP9 HR9 HS9 HB9 HFr
  have hrl : goal < (reachL g s v).length := by rw [reachL_length]; exact hgn
  obtain ⟨br, or_, rfl, er⟩ := HRr.out.bo hrl
  have hdl : v < (distF g s goal).length := by rw [distF_length]; exact hvn
  obtain ⟨bd, od, rfl, ed⟩ := HD.out.iv hdl
  have hrb := atB_at hrl
  have hdv : dAt (distF g s goal) v = (distF g s goal)[v] := by unfold dAt; rw [List.getD_eq_getElem?_getD, List.getElem?_eq_getElem hdl]; rfl
  have HFR := Lib.hid (first_reach (s := s) HV.out hvn hgn)
  rcases first_cases (s := s) HV.out hvn hgn with ⟨h1, h2⟩ | hok
  · have hz : (reachL g s v)[goal] = false := by
      rcases e : (reachL g s v)[goal] with _ | _
      · rfl
      · rw [e] at hrb
        have := HFR.out.1 hrb
        rw [h1] at this
        simp at this
    rw [hz] at er
    rw [hdv] at h2
    rw [h1]
    generalize (distF g s goal)[v] = dv at *
    have hd1 : decide (0 ≤ dv) = false := by simp; omega
    clear hrb hdv hrl hdl hz HP h1 HFR HH HD HR HS HRr
    go_wp2_with fail
    go_quiet (fail)
    go_wp2
    go_ret
    exact ⟨rfl, below_drewN HB.out _⟩
  · have hz : (reachL g s v)[goal] = true := by rw [← hrb]; exact HFR.out.2 hok.pos
    have hdd := hok.dist
    rw [hdv] at hdd
    rw [hz] at er
    rw [hdd] at ed
    have HOk := Lib.hid hok
    have hpf := hok.first
    have hpl := hok.last
    have hpp := hok.pos
    have hps := firstF_short (s := s) (a := v) HV.out hgn
    clear hrb hdv hrl hdl hz hdd HFR hok
    generalize firstF g s v goal = p at *
    obtain ⟨m, hm⟩ : ∃ m, p.length = m + 1 := ⟨p.length - 1, by omega⟩
    rw [hm] at hpl ed hps ⊢
    rw [show m + 1 - 1 = m from rfl] at hpl ed
    have hm0 : 0 < p.length := by omega
    have hmm : m < p.length := by omega
    obtain ⟨bp, op, rfl, ep0⟩ := HP.out.iv hm0
    obtain ⟨bp', op', hBe, epm⟩ := HP.out.iv hmm
    injection hBe with hBe
    injection hBe with hB1 hB2
    subst hB1 hB2
    rw [List.getElem?_eq_getElem hm0] at hpf
    rw [List.getElem?_eq_getElem hmm] at hpl
    injection hpf with hpf
    injection hpl with hpl
    rw [hpf, Nat.add_zero] at ep0
    rw [hpl] at epm
    have HM := Lib.hid hm
    clear hpf hpl hpp hm hm0 hmm
    go_wp2_with fail
    go_quiet (fail)
    go_wp2
    clear ep0 epm er ed
    have HBn := Lib.hid (below_drewN HB.out nq)
    have HW0 := Lib.hid (below_drewN (Below.refl wA.heap.size wA) nq)
    have hm127 : ((m : Int) + 1 == 0) = false := by rw [beq_eq_false_iff_ne]; omega
    rw [hm127]
    go_loopw [16] (fun iv wr => ∃ k : Nat, iv = .int .i64 k ∧ k ≤ m + 1 ∧ Hid (Below wA.heap.size wA wr)) (fun iv _ => m + 1 - (intOf iv).toNat)
    case atStart => exact ⟨0, rfl, Nat.zero_le _, HW0⟩
    case round =>
      clear HW0
      obtain ⟨k, rfl, hk, HW⟩ := hrel
      by_cases hkm : k < m + 1
      · have hkp : k < p.length := by have := HM.out; omega
        obtain ⟨x0, x1, x2⟩ := HOk.out.ok k _ (List.getElem?_eq_getElem hkp)
        obtain ⟨x, hx⟩ := Int.eq_ofNat_of_zero_le x0
        obtain ⟨_, _, hBe, ek⟩ := HP.out.iv hkp
        injection hBe with hBe
        injection hBe with hB1 hB2
        subst hB1 hB2
        have ekr : wr.cell? ⟨bp, op + k, none⟩ = some (.int .i64 x) := by rw [HW.out.cell (p := ⟨bp, op + k, none⟩) (World.block_lt_of_cell? _ _ ek), ek, hx]
        rw [hx] at x1 x2
        have hxn : x < g.length := by omega
        have hxs : x < s.length := by have := HSL.out; omega
        obtain ⟨bs, os, rfl, es⟩ := HS.out.bo hxs
        have esr : wr.cell? ⟨bs, os + x, none⟩ = some (.bool false) := by
          rw [HW.out.cell (p := ⟨bs, os + x, none⟩) (World.block_lt_of_cell? _ _ es), es, ← atB_at hxs]
          rw [show (x : Int).toNat = x from Int.toNat_natCast x] at x2
          rw [x2]
        have hX0 : decide ((x : Int) < 0) = false := decide_eq_false (by omega)
        have hX1 : decide ((g.length : Int) ≤ (x : Int)) = false := decide_eq_false (by omega)
        have hX2 : decide (g.length ≤ x) = false := decide_eq_false (by omega)
        clear es ek x0 x2
        by_cases hk1 : k < m
        · have hkp1 : k + 1 < p.length := by have := HM.out; omega
          obtain ⟨hn1, hn2⟩ := HOk.out.next k _ _ (List.getElem?_eq_getElem hkp) (List.getElem?_eq_getElem hkp1)
          obtain ⟨_, _, hBe, ek1⟩ := HP.out.iv hkp1
          injection hBe with hBe
          injection hBe with hB1 hB2
          subst hB1 hB2
          have ek1r : wr.cell? ⟨bp, op + (k + 1), none⟩ = some (.int .i64 p[k + 1]) := by rw [HW.out.cell (p := ⟨bp, op + (k + 1), none⟩) (World.block_lt_of_cell? _ _ ek1), ek1]
          have hhl : x < (hopsL g (distF g s goal)).length := by simp [hopsL, hxn]
          obtain ⟨bh, oh, rfl, eh⟩ := HH.out.iv hhl
          rw [hx] at hn1 hn2
          have hhx : (hopsL g (distF g s goal))[x] = p[k + 1] := by
            rw [← hn1]
            unfold atI
            rw [Int.toNat_natCast, List.getD_eq_getElem?_getD, List.getElem?_eq_getElem hhl]
            rfl
          rw [hhx] at eh
          have ehr : wr.cell? ⟨bh, oh + x, none⟩ = some (.int .i64 p[k + 1]) := by rw [HW.out.cell (p := ⟨bh, oh + x, none⟩) (World.block_lt_of_cell? _ _ eh), eh]
          obtain ⟨bg, og, Ar, cr2, rfl, eg, hg1⟩ := HR.out.one hxn
          have egr : wr.cell? ⟨bg, og + x, none⟩ = some (.slice Ar g[x].length cr2) := by rw [HW.out.cell (p := ⟨bg, og + x, none⟩) (World.block_lt_of_cell? _ _ eg), eg]
          rw [Int.toNat_natCast, rowG_get hxn] at hn2
          have hrl2 := validG_short HV.out _ (List.getElem_mem hxn)
          have CH := Lib.hid (fun n => (has_c Ar cr2 g[x] p[k + 1] (wr.drewN n) ((hg1.keep HW.out).drewN n) (by omega)).mono fun e w' h => (⟨h.1, h.2.symm⟩ : e = .returned (.bool (decide (p[k + 1] ∈ g[x]))) ∧ w' = wr.drewN n))
          rw [decide_eq_true hn2] at CH
          have hkI : decide ((k : Int) + 1 < (m : Int) + 1) = true := decide_eq_true (by omega)
          have hkJ : decide ((k : Int) < (m : Int)) = true := decide_eq_true (by omega)
          have hw1 : IntKind.i64.wrap ((k : Int) + 1) = (k : Int) + 1 := IntWalk.i64_in _ ⟨by omega, by omega⟩
          have hkW : decide (IntKind.i64.wrap ((k : Int) + 1) < (m : Int) + 1) = true := by rw [hw1]; exact hkI
          have hI1 : (0 : Int) ≤ (k : Int) + 1 := by omega
          have hI2 : (k : Int) + 1 < (m : Int) + 1 := by omega
          have hI3 : (k : Int) < (m : Int) := by omega
          have hI4 : k < m := by omega
          clear ek1 eh eg hg1 hn1 hn2 hhx hhl hrl2 hx
          generalize p[k + 1] = y at *
          generalize g[x] = rx at *
          go_wp2_with fail
          go_quiet (first | (go_at_call 23; exact Calls.quiet_of_same (CH.out _)))
          go_wp2
          go_roundw
          case rel => exact ⟨k + 1, by go_num, by omega, Lib.hid (below_drewN HW.out _)⟩
          case measure => simp [intOf]; omega
        · obtain rfl : k = m := by omega
          have hw1 : IntKind.i64.wrap ((k : Int) + 1) = (k : Int) + 1 := IntWalk.i64_in _ ⟨by omega, by omega⟩
          have hkW : decide (IntKind.i64.wrap ((k : Int) + 1) < (k : Int) + 1) = false := by rw [hw1]; exact decide_eq_false (by omega)
          clear hk1 hkm
          go_wp2_with fail
          go_quiet (fail)
          go_wp2
          go_roundw
          case rel => exact ⟨k + 1, by go_num, by omega, Lib.hid (below_drewN HW.out _)⟩
          case measure => simp [intOf]
      · obtain rfl : k = m + 1 := by omega
        go_wp2
        go_ret
        exact ⟨rfl, HB.out.trans (HW.out.mono HB.out.size)⟩
end Go.Proofs.Ytcfnilemikenhaa
