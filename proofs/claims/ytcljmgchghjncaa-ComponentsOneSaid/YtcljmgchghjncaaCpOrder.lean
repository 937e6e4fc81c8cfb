/- Contract of the reference's Order of layer 5. -/
import Derived.Test.YtcljmgchghjncaaCpNames
import Derived.Test.YtcljmgchghjncaaGrHas
import Derived.Deep.LoopGhost
namespace Go.Proofs.Ytcljmgchghjncaa
open Go Go.RowKit Fl

open Classical in
noncomputable def ordL (g : GraphD) (s : List Bool) : List Int := if chkG g s.length = 0 then orderL g s else []
/-- The least candidate from j on. -/
def BestRel (g : GraphD) (s : List Bool) (L : List Int) (j : Nat) (z : Int) : Prop :=
  (z = -1 ∧ ∀ u, j ≤ u → u < g.length → cand g s L u = false) ∨ ∃ a : Nat, z = a ∧ a < g.length ∧ cand g s L a = true ∧ ∀ u, j ≤ u → u < a → cand g s L u = false
theorem BestRel.start (g : GraphD) (s : List Bool) (L : List Int) : BestRel g s L g.length (-1) := .inl ⟨rfl, fun u h1 h2 => by omega⟩
theorem BestRel.no {g : GraphD} {s : List Bool} {L : List Int} {j : Nat} {z : Int} (h : BestRel g s L (j + 1) z) (hc : cand g s L j = false) : BestRel g s L j z := by
  rcases h with ⟨h1, h2⟩ | ⟨a, h1, h2, h3, h4⟩
  · refine .inl ⟨h1, fun u hu hn => ?_⟩
    rcases Nat.eq_or_lt_of_le hu with rfl | h
    · exact hc
    · exact h2 u h hn
  · refine .inr ⟨a, h1, h2, h3, fun u hu hn => ?_⟩
    rcases Nat.eq_or_lt_of_le hu with rfl | h
    · exact hc
    · exact h4 u h hn
theorem BestRel.yes {g : GraphD} {s : List Bool} {L : List Int} {j : Nat} (hj : j < g.length) (hc : cand g s L j = true) : BestRel g s L j j := .inr ⟨j, rfl, hj, hc, fun u h1 h2 => by omega⟩
theorem BestRel.low {g : GraphD} {s : List Bool} {L : List Int} {j : Nat} {z : Int} (h : BestRel g s L j z) : -1 ≤ z ∧ z < 1000 + g.length := by
  rcases h with ⟨h1, _⟩ | ⟨a, h1, h2, _⟩ <;> omega
theorem BestRel.best {g : GraphD} {s : List Bool} {L : List Int} {z : Int} (h : BestRel g s L 0 z) : (z = -1 ∧ best g s L = none) ∨ ∃ a : Nat, z = a ∧ best g s L = some a := by
  rcases h with ⟨h1, h2⟩ | ⟨a, h1, h2, h3, h4⟩
  · refine .inl ⟨h1, ?_⟩
    rcases e : Fl.best g s L with _ | k
    · rfl
    · obtain ⟨h3, h4⟩ := best_some e
      rw [h2 k (Nat.zero_le _) h3] at h4
      cases h4
  · exact .inr ⟨a, h1, leastF_is h2 h3 fun j hj => h4 j (Nat.zero_le _) hj⟩
theorem cand_no1 {g : GraphD} {s : List Bool} {L : List Int} {v : Nat} (h : nameOf g s v ≠ v) : cand g s L v = false := by
  rcases e : cand g s L v with _ | _
  · rfl
  · exact absurd (cand_iff.1 e).1 h
theorem cand_no2 {g : GraphD} {s : List Bool} {L : List Int} {v : Nat} (h : (v : Int) ∈ L) : cand g s L v = false := by
  rcases e : cand g s L v with _ | _
  · rfl
  · exact absurd h (cand_iff.1 e).2.1
/-- None of the names before k that are left leads to v. -/
def NoneTo (g : GraphD) (s : List Bool) (L : List Int) (v k : Nat) : Prop := ∀ u : Nat, u < k → nameOf g s u = u → u ≠ v → (u : Int) ∉ L → ¬ PathG g s u v
theorem NoneTo.skip {g : GraphD} {s : List Bool} {L : List Int} {v k : Nat} {b : Bool} (h : b = true ↔ NoneTo g s L v k) (hn : nameOf g s k = k → k ≠ v → (k : Int) ∉ L → ¬ PathG g s k v) : b = true ↔ NoneTo g s L v (k + 1) := by
  rw [h]
  constructor
  · intro h u hu
    rcases Nat.lt_succ_iff_lt_or_eq.1 hu with h1 | rfl
    · exact h u h1
    · exact hn
  · exact fun h u hu => h u (by omega)
theorem NoneTo.hit {g : GraphD} {s : List Bool} {L : List Int} {v k : Nat} (h1 : nameOf g s k = k) (h2 : k ≠ v) (h3 : (k : Int) ∉ L) (h4 : PathG g s k v) : false = true ↔ NoneTo g s L v (k + 1) :=
  ⟨fun h => by (cases h), fun h => absurd h4 (h k (by omega) h1 h2 h3)⟩
theorem ints_in {w : World} {b o k : Nat} {l : List Int} (h : Holds w (some ⟨b, o, none⟩) (l.map Iv)) (hk : k < l.length) : w.cell? ⟨b, o + k, none⟩ = some (.int .i64 l[k]) := by
  obtain ⟨b', o', hA, h1⟩ := h.iv hk
  injection hA with hA
  injection hA with e1 e2
  subst e1 e2
  exact h1
set_option maxRecDepth 100000 in
set_option maxHeartbeats 8000000 in
theorem refOrder_c (A B : Option Addr) (c d : Nat) (g : GraphD) (s : List Bool) (w : World) (hh : RowsAt w A g) (hs : Holds w B (s.map Bo)) (hz : Sized g) :
    Calls Try.prog 13 #[.slice A g.length c, .slice B s.length d] w (IntsPost w (ordL g s) (chkG g s.length)) := by
  have CN := Lib.hid (refNames_c A B c d g s w hh hs hz)
  by_cases h0 : chkG g s.length = 0
  · have hv : validG g = true ∧ s.length = g.length := by
      rcases chkG_cases g s.length with h | h | h
      · exact h.2
      · omega
      · omega
    have HE : Hid (ordL g s = orderL g s) := Lib.hid (by unfold ordL; rw [if_pos h0])
    have HNm : Hid (nmL g s = namesL g s) := Lib.hid (by unfold nmL; rw [if_pos h0])
    rw [h0] at CN ⊢
    have hl24 := validG_len hv.1
    have CR := Lib.hid (fun W (v : Nat) (hW : Below w.heap.size w W) hvn => reach_c A B c d g s v W (hh.keep hW) (hs.keep hW) hv.1 hv.2 hvn)
    have HRun := Lib.hid (orderL_runs g s)
    clear hh hs hz h0 hv
    go_enter Try.func13, Try.ntmps13
    go_wp2_with fail
    refine CN.out.mono ?_
    rintro e wN ⟨nu, rfl, hown, hbN⟩
    rw [HNm.out] at hown
    obtain ⟨An, cn, rfl, hn⟩ := own_is hown
    have HN := Lib.hid hn
    have HBN := Lib.hid hbN
    have HNL := Lib.hid (namesL_length g s)
    obtain ⟨base, hba1, hba2⟩ : ∃ base, base ≤ wN.heap.size ∧ wN.heap.size ≤ base := ⟨wN.heap.size, Nat.le_refl _, Nat.le_refl _⟩
    have HO0 : Hid (wN.ownsRow base 3 1 (.slice none 0 0) ([] : List Int).length (([] : List Int).map Iv)) := Lib.hid (World.ownsRow_nil _ _ _ _)
    have hl0 : ([] : List Int).length + leftN g [] ≤ g.length := by
      have h : leftN g [] ≤ g.length := by
        unfold leftN
        exact Nat.le_trans (List.length_filter_le _ _) (by simp)
      simpa using h
    clear CN hown hn hbN
    go_wp2
    go_loopg [8] (leftN g [] + 1) (fun gk o wr => ∃ L : List Int, Hid (Runs g s L (orderL g s)) ∧ L.length + leftN g L ≤ g.length ∧ leftN g L + 1 ≤ gk ∧ gk ≤ 100 ∧ Hid (wr.ownsRow base 3 1 o L.length (L.map Iv)) ∧ Hid (Below wN.heap.size wN wr))
    case atStart => exact ⟨[], HRun, hl0, Nat.le_refl _, by have : ([] : List Int).length = 0 := rfl; omega, HO0, Lib.hid (Below.refl _ _)⟩
    case round =>
      clear HRun HO0 hl0
      obtain ⟨L, HRun, hL, hgk1, hgk2, HO, HW⟩ := hrel
      obtain ⟨Ao, co, rfl, ho⟩ := own_is HO.out
      have HOh := Lib.hid ho
      have hL24 : L.length ≤ 24 := by omega
      obtain ⟨wo, hwo⟩ : ∃ wo, wo = wr := ⟨_, rfl⟩
      rw [← hwo] at HO HW HOh ⊢
      clear hwo ho
      have HBest := Lib.hid (BestRel.start g s L)
      go_wp2
      go_loopw [9, 10] (fun bv iv wr => ∃ (j : Nat) (z z1 : Int), iv = .int .i64 z1 ∧ z1 + 1 = j ∧ j ≤ g.length ∧ bv = .int .i64 z ∧ Hid (BestRel g s L j z) ∧ Hid (Below wo.heap.size wo wr)) (fun _ iv _ => (intOf iv + 1).toNat)
      case atStart => exact ⟨g.length, -1, (g.length : Int) - 1, by go_num, by omega, Nat.le_refl _, rfl, HBest, Lib.hid (Below.refl _ _)⟩
      case round =>
        clear HBest
        obtain ⟨j, z, z1, rfl, hz1, hj, rfl, HB, HWo⟩ := hrel
        have hlow := HB.out.low
        have HWN := Lib.hid (HW.out.trans (HWo.out.mono HW.out.size))
        rcases j with _ | j
        · obtain rfl : z1 = -1 := by omega
          rcases HB.out.best with ⟨rfl, hb⟩ | ⟨a, rfl, hb⟩
          · have HL : Hid (L = orderL g s) := Lib.hid (HRun.out.none hb)
            have HOl : Hid (wr.ownsRow w.heap.size 3 1 (.slice Ao L.length co) L.length (L.map Iv)) := Lib.hid (by
              have hsz := HBN.out.size
              obtain ⟨h1, h2⟩ := ownsRow_below HO.out HWo.out
              refine ⟨h1, ?_⟩
              rcases h2 with h2 | ⟨g', cap', cur, hv', hg', hr'⟩
              · exact .inl h2
              · exact .inr ⟨g', cap', cur, hv', by omega, hr'⟩)
            have HBx := Lib.hid (HBN.out.trans (HWN.out.mono HBN.out.size))
            clear HB hb HRun
            go_wp2
            go_ret2
            exact ⟨_, rfl, by rw [HE.out, ← HL.out]; exact HOl.out, HBx.out⟩
          · have HRun2 := Lib.hid (HRun.out.some hb)
            have hless := best_left hb
            have HO2 := Lib.hid (ownsRow_below HO.out HWo.out)
            have HBa := Lib.hid (own_base HO.out)
            have hsz := HWN.out.size
            have hL2 : (L ++ [(a : Int)]).length + leftN g (L ++ [(a : Int)]) ≤ g.length := by rw [List.length_append, List.length_singleton]; omega
            have hgk : leftN g (L ++ [(a : Int)]) + 1 ≤ gk - 1 := by omega
            clear HB hb HRun hlow hless
            go_wp2_with (at_builtin; refine app_int _ rfl _ _ rfl base _ _ _ rfl (HO2.out.alloc _) _ (a : Int) rfl (by rw [cell_of_row _ _ 0 _ _ _ (heap_alloc_new wr _)]; rfl) (by omega) (by simp; omega) ?_)
            intro v' w' hown hgrow
            have HO3 : Hid (w'.ownsRow base 3 1 v' (L ++ [(a : Int)]).length ((L ++ [(a : Int)]).map Iv)) := Lib.hid (by simpa using hown)
            have HW3 : Hid (Below wN.heap.size wN w') := Lib.hid (HWN.out.trans (((Below.refl wN.heap.size wr).alloc hsz _).grown hgrow (by simp; omega) (fun k hk => by have := HBa.out k hk; omega)))
            clear hown hgrow HO2 HBa
            go_wp2
            go_roundg (gk - 1)
            case measure => omega
            case rel => exact ⟨L ++ [(a : Int)], HRun2, hL2, hgk, by omega, HO3, HW3⟩
        · obtain rfl : z1 = (j : Int) := by omega
          have hjn : j < g.length := hj
          have HNr := Lib.hid (HN.out.keep HWN.out)
          have hjl : j < (namesL g s).length := by rw [HNL.out]; exact hjn
          obtain ⟨bn, on, hAn, e1⟩ := HNr.out.iv hjl
          subst hAn
          rw [namesL_at] at e1
          have COut := Lib.hid (fun (W : World) (hW : Below wo.heap.size wo W) (x : Int) => has_c Ao co L x W (HOh.out.keep hW) (by omega))
          have hnr := name_le g s j
          have hnr2 := name_ge g s j
          by_cases hname : nameOf g s j = j
          · have HName := Lib.hid hname
            rw [hname] at e1
            clear hname hnr hnr2
            by_cases hin : (j : Int) ∈ L
            · have HB2 := Lib.hid (HB.out.no (cand_no2 hin))
              have hd := decide_eq_true hin
              have CH := Lib.hid (COut.out wr HWo.out (j : Int))
              rw [hd] at CH
              clear HB hin hd COut
              go_wp2_with fail
              refine CH.out.mono ?_
              rintro e wx ⟨rfl, rfl⟩
              go_wp2
              go_roundw
              case rel => exact ⟨j, z, (j : Int) - 1, by go_num, by omega, by omega, rfl, HB2, HWo⟩
              case measure => simp [intOf]
            · have hd := decide_eq_false hin
              have CH := Lib.hid (COut.out wr HWo.out (j : Int))
              rw [hd] at CH
              have HIn := Lib.hid hin
              have HBy := Lib.hid (fun h => BestRel.yes (g := g) (s := s) (L := L) hjn h)
              have HBn := Lib.hid (fun h => HB.out.no h)
              clear HB hin hd
              obtain ⟨w2, hw2⟩ : ∃ w2, w2 = wr := ⟨_, rfl⟩
              rw [← hw2] at HWo HWN HNr e1 CH ⊢
              clear hw2
              go_wp2_with fail
              refine CH.out.mono ?_
              rintro e wx ⟨rfl, rfl⟩
              clear CH
              go_wp2
              go_loopw [11, 12] (fun fv iv wr => ∃ (k : Nat) (b : Bool), fv = .bool b ∧ iv = .int .i64 k ∧ k ≤ g.length ∧ Hid (b = true ↔ NoneTo g s L j k) ∧ Hid (Below w2.heap.size w2 wr)) (fun _ iv _ => g.length - (intOf iv).toNat)
              case atStart => exact ⟨0, true, rfl, rfl, Nat.zero_le _, Lib.hid ⟨fun _ u hu => by omega, fun _ => rfl⟩, Lib.hid (Below.refl _ _)⟩
              case round =>
                obtain ⟨k, b, rfl, rfl, hk, HF, HW2⟩ := hrel
                by_cases hkn : k < g.length
                · have hkl : k < (namesL g s).length := by rw [HNL.out]; exact hkn
                  have e2 := ints_in (HNr.out.keep HW2.out) hkl
                  rw [namesL_at] at e2
                  have HWo3 := Lib.hid (HWo.out.trans (HW2.out.mono HWo.out.size))
                  have hnr := name_le g s k
                  have hnr2 := name_ge g s k
                  by_cases hnk : nameOf g s k = k
                  · rw [hnk] at e2
                    by_cases hkj : k = j
                    · have HF2 := Lib.hid (NoneTo.skip HF.out (fun _ h => absurd hkj h))
                      have hd : ((k : Int) != (j : Int)) = false := by simp [hkj]
                      clear HF hnk hnr hnr2 hkj
                      go_wp2
                      go_roundw
                      case rel => exact ⟨k + 1, b, rfl, by go_num, by omega, HF2, HW2⟩
                      case measure => simp [intOf]; omega
                    · have hd : ((k : Int) != (j : Int)) = true := by rw [bne_iff_ne]; omega
                      by_cases hin : (k : Int) ∈ L
                      · have HF2 := Lib.hid (NoneTo.skip HF.out (fun _ _ h => absurd hin h))
                        have CH := Lib.hid (COut.out wr HWo3.out (k : Int))
                        rw [decide_eq_true hin] at CH
                        clear HF hnk hnr hnr2 hkj hin
                        go_wp2_with fail
                        refine CH.out.mono ?_
                        rintro e wx ⟨rfl, rfl⟩
                        go_wp2
                        go_roundw
                        case rel => exact ⟨k + 1, b, rfl, by go_num, by omega, HF2, HW2⟩
                        case measure => simp [intOf]; omega
                      · have CH := Lib.hid (COut.out wr HWo3.out (k : Int))
                        rw [decide_eq_false hin] at CH
                        have HWr := Lib.hid (HBN.out.trans ((HWN.out.trans (HW2.out.mono HWN.out.size)).mono HBN.out.size))
                        have CRk := Lib.hid (CR.out wr k HWr.out hkn)
                        have HSkip := Lib.hid (fun h => NoneTo.skip HF.out (fun _ _ _ => h))
                        have HHit := Lib.hid (fun h => NoneTo.hit hnk hkj hin h)
                        clear HF hnk hnr hnr2 hkj hin
                        go_wp2_with fail
                        refine CH.out.mono ?_
                        rintro e wx ⟨rfl, rfl⟩
                        go_wp2_with fail
                        refine CRk.out.mono ?_
                        rintro e w5 ⟨x, rfl, hox, hb5⟩
                        obtain ⟨gx, cx, rfl, _, _⟩ := own_at hox (by omega)
                        obtain ⟨p, e5, hp⟩ := reach_in (ownsRow_holds hox) hjn
                        rw [Nat.zero_add] at e5
                        have HW5 := Lib.hid (HW2.out.trans (hb5.mono HW2.out.size))
                        clear hox hb5 CH CRk
                        rcases hpc : p with _ | _
                        · have HF2 := Lib.hid (HSkip.out (fun h => by have := hp.2 h; rw [hpc] at this; cases this))
                          rw [hpc] at e5
                          clear HSkip HHit hp hpc
                          go_wp2
                          go_roundw
                          case rel => exact ⟨k + 1, b, rfl, by go_num, by omega, HF2, HW5⟩
                          case measure => simp [intOf]; omega
                        · have HF2 := Lib.hid (HHit.out (hp.1 hpc))
                          rw [hpc] at e5
                          clear HSkip HHit hp hpc
                          go_wp2
                          go_roundw
                          case rel => exact ⟨k + 1, false, rfl, by go_num, by omega, HF2, HW5⟩
                          case measure => simp [intOf]; omega
                  · have HF2 := Lib.hid (NoneTo.skip HF.out (fun h => absurd h hnk))
                    have hd : (nameOf g s k == (k : Int)) = false := by simpa using hnk
                    clear HF hnk
                    generalize nameOf g s k = zk at *
                    go_wp2
                    go_roundw
                    case rel => exact ⟨k + 1, b, rfl, by go_num, by omega, HF2, HW2⟩
                    case measure => simp [intOf]; omega
                · have hkg : k = g.length := by omega
                  have HW6 := Lib.hid (HWo.out.trans (HW2.out.mono HWo.out.size))
                  have HC : Hid (b = cand g s L j) := Lib.hid (by
                    rw [Bool.eq_iff_iff, HF.out, cand_iff, hkg]
                    exact ⟨fun h => ⟨HName.out, HIn.out, fun w h1 h2 h3 h4 => h w h1 h2 h3 h4⟩, fun h u h1 h2 h3 h4 => h.2.2 u h1 h2 h3 h4⟩)
                  clear HF COut
                  rcases b with _ | _
                  · have HB2 := Lib.hid (HBn.out HC.out.symm)
                    clear HBn HBy HC
                    go_wp2
                    go_roundw
                    case rel => exact ⟨j, z, (j : Int) - 1, by go_num, by omega, by omega, rfl, HB2, HW6⟩
                    case measure => simp [intOf]
                  · have HB2 := Lib.hid (HBy.out HC.out.symm)
                    clear HBn HBy HC
                    go_wp2
                    go_roundw
                    case rel => exact ⟨j, (j : Int), (j : Int) - 1, by go_num, by omega, by omega, rfl, HB2, HW6⟩
                    case measure => simp [intOf]
          · have HB2 := Lib.hid (HB.out.no (cand_no1 hname))
            have hd : (nameOf g s j != (j : Int)) = true := by rw [bne_iff_ne]; exact hname
            clear HB hname COut
            generalize nameOf g s j = zj at *
            go_wp2
            go_roundw
            case rel => exact ⟨j, z, (j : Int) - 1, by go_num, by omega, by omega, rfl, HB2, HWo⟩
            case measure => simp [intOf]
  · have HE : Hid (ordL g s = []) := Lib.hid (by unfold ordL; rw [if_neg h0])
    have hcase : chkG g s.length = 19 ∨ chkG g s.length = 20 := by
      rcases chkG_cases g s.length with h | h | h
      · exact absurd h.1 h0
      · exact .inl h
      · exact .inr h
    clear hh hs hz h0
    rcases hcase with h | h
    all_goals
      rw [h] at CN ⊢
      clear h
      go_enter Try.func13, Try.ntmps13
      go_wp2_with fail
      refine CN.out.mono ?_
      rintro e w1 ⟨nu, rfl, _, hb⟩
      have HB := Lib.hid hb
      clear hb
      go_wp2
      go_ret2
      exact ⟨_, rfl, by rw [HE.out]; exact World.ownsRow_nil _ _ _ _, HB.out⟩
end Go.Proofs.Ytcljmgchghjncaa
