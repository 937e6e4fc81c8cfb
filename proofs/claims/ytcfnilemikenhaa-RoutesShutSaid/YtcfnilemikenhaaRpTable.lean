/- Contract of routes' Table. -/
import Derived.Test.YtcfnilemikenhaaRpAll
import Derived.Test.YtcfnilemikenhaaRpPath
namespace Go.Proofs.Ytcfnilemikenhaa
open Go Go.RowKit Fl

theorem tab_part (g : GraphD) (s : List Bool) (n k : Nat) : rowsF n (fun i => if i < k + 1 then hopsL g (distF g s i) else []) = (rowsF n (fun i => if i < k then hopsL g (distF g s i) else [])).set k (hopsL g (distF g s k)) := by
  refine (rowsF_set (f' := fun i => if i < k + 1 then hopsL g (distF g s i) else []) (if_pos (Nat.lt_succ_self k)) fun i hi => ?_).symm
  by_cases h : i < k
  · show (if i < k + 1 then _ else _) = if i < k then _ else _
    rw [if_pos h, if_pos (by omega)]
  · show (if i < k + 1 then _ else _) = if i < k then _ else _
    rw [if_neg h, if_neg (by omega)]
theorem tab_all (g : GraphD) (s : List Bool) (n : Nat) : rowsF n (fun i => if i < n then hopsL g (distF g s i) else []) = tabF g s n := by
  unfold rowsF tabF
  refine List.map_congr_left fun i hi => ?_
  rw [if_pos (List.mem_range.1 hi)]
set_option maxRecDepth 100000 in
set_option maxHeartbeats 4000000 in
theorem devTable_c (A B : Option Addr) (c d : Nat) (g : GraphD) (s : List Bool) (w : World) (hh : RowsAt w A g) (hs : Holds w B (s.map Bo)) (hz : Sized g) :
    Calls Try.prog 19 #[.slice A g.length c, .slice B s.length d] w (WoPost w (tabL g s) (chkG g s.length)) := by
  have CC := openGraph_c A B none c d 0 g s [] w hh hs .nil hz (by simp)
  rw [opE_none, show ([] : List Int).length = 0 from rfl] at CC
  have CC := Lib.hid CC
  by_cases h0 : chkG g s.length = 0
  · have hv : validG g = true ∧ s.length = g.length := by
      rcases chkG_cases g s.length with h | h | h
      · exact h.2
      · omega
      · omega
    have hl24 := validG_len hv.1
    have HE : Hid (tabL g s = tabF g s g.length) := Lib.hid (by unfold tabL; rw [if_pos h0])
    have HO : Hid (opL g s [] = woG g s) := Lib.hid (by unfold opL; rw [if_pos (by rw [opE_none]; exact h0)])
    have hwl := woG_length g s
    have CH := Lib.hid (fun (A1 : Option Addr) (c1 : Nat) (w1 : World) (h1 : RowsAt w1 A1 (woG g s)) (h2 : Below w.heap.size w w1) (goal : Nat) (hg : goal < g.length) => hopsTo_c A1 B c1 d g s goal w1 h1 (hs.keep h2) hv.1 hv.2 hg)
    have HP := Lib.hid (fun k => tab_part g s g.length k)
    have HA := Lib.hid (tab_all g s g.length)
    have HHL := Lib.hid (fun k => hopsL_len g (distF g s k))
    rw [h0] at CC ⊢
    clear hh hs hz h0 hv
    go_enter Try.func19, Try.ntmps19
    go_wp2_with fail
    refine CC.out.mono ?_
    rintro e w1 ⟨u, rfl, own1, hb1⟩
    rw [HO.out] at own1
    obtain ⟨A1, c1, rfl, r1⟩ := own1.at_
    rw [hwl]
    have HB1 := Lib.hid hb1
    have HR1 := Lib.hid r1
    clear own1 r1 hb1 CC HO hwl
    go_wp2_with (refine make_any _ rfl _ _ 22 25 (.slice none 0 0) 24 Try.underlying22 Try.infoRowG rfl (by decide) rfl .i64 .i64 _ _ g.length rfl rfl rfl rfl (by omega) ?_)
    intro w2 own2 hb2
    have HO2 : Hid (RowsOwn w2 w1.heap.size (.slice (some ⟨w1.heap.size, 0, none⟩) g.length g.length) (rowsF g.length (fun i => if i < 0 then hopsL g (distF g s i) else []))) := Lib.hid (by
      rw [rowsF_congr (f' := fun _ => []) (fun i _ => by rw [if_neg (by omega)]), rowsF_nil]
      exact (rowsD_new own2).rows)
    have HB2 := Lib.hid hb2
    clear own2 hb2
    go_wp2
    go_loopw [9, 24] (fun _ v wr => ∃ (k : Nat), v = .int .i64 k ∧ k ≤ g.length ∧ Hid (RowsOwn wr w1.heap.size (.slice (some ⟨w1.heap.size, 0, none⟩) g.length g.length) (rowsF g.length (fun i => if i < k then hopsL g (distF g s i) else []))) ∧ Hid (Below w1.heap.size w1 wr)) (fun _ v _ => g.length - (intOf v).toNat)
    case atStart => exact ⟨0, rfl, Nat.zero_le _, HO2, HB2⟩
    case round =>
      clear HO2 HB2
      obtain ⟨k, rfl, hk, HOr, HBr⟩ := hrel
      have hws := HB1.out.size
      have hwr := HBr.out.size
      by_cases hlt : k < g.length
      · have CK := Lib.hid (CH.out A1 c1 wr (HR1.out.keep HBr.out) (HB1.out.trans (HBr.out.mono hws)) k hlt)
        go_wp2_with fail
        refine CK.out.mono ?_
        rintro e w3 ⟨v3, rfl, own3, hb3⟩
        have HO3 : Hid (w3.ownsRow wr.heap.size 3 1 v3 (hopsL g (distF g s k)).length ((hopsL g (distF g s k)).map Iv)) := Lib.hid (by rw [HHL.out]; exact own3)
        have HT3 := Lib.hid (HOr.out.keep hb3)
        have HB3 := Lib.hid (HBr.out.trans (hb3.mono hwr))
        have hw3 := hb3.size
        obtain ⟨A3, c3, rfl, _⟩ := own_is own3
        obtain ⟨cu, hc1, hc2⟩ : ∃ cu, w3.cell? ⟨w1.heap.size, k, none⟩ = some cu ∧ w3.frozen? ⟨w1.heap.size, k, none⟩ = false := by
          obtain ⟨vs, h1, h2, h3⟩ := HT3.out
          rw [rowsF_length] at h1
          exact ⟨_, own_get (by rw [rowsF_length] at h2; exact h2) (List.getElem?_eq_getElem (i := k) (by omega))⟩
        have HPl : Hid (RowsOwn (w3.setCell ⟨w1.heap.size, k, none⟩ (.slice A3 g.length c3)) w1.heap.size (.slice (some ⟨w1.heap.size, 0, none⟩) g.length g.length) (rowsF g.length (fun i => if i < k + 1 then hopsL g (distF g s i) else []))) := Lib.hid (by
          rw [HP.out]
          refine RowsOwn.place HT3.out (by rw [rowsF_length]) (fun _ _ => rfl) ?_
          have h := ownsRow_base HO3.out hwr
          refine own_to h fun q hq hqs => Below.heap_setCell _ _ _ _ (fun e2 => ?_)
          obtain ⟨cs2, h6⟩ := own_type h hq
          simp only at e2
          obtain ⟨vs, _, h2, _⟩ := HT3.out
          obtain ⟨cs3, h7⟩ := own_type h2 (k := w1.heap.size) rfl
          rw [e2, h7] at h6
          injection h6 with h6
          injection h6 with _ h8
          exact absurd h8 (by decide))
        have HBS := Lib.hid (below_put (i := k) (v := .slice A3 g.length c3) HB3.out (Nat.le_refl w1.heap.size))
        clear own3 hb3 CK HO3 HT3 HOr HBr HB3
        go_wp2
        go_roundw
        case rel => exact ⟨k + 1, by go_num, by omega, HPl, HBS⟩
        case measure => simp [intOf]; omega
      · obtain rfl : k = g.length := by omega
        have HRes : Hid (RowsOwn wr w.heap.size (.slice (some ⟨w1.heap.size, 0, none⟩) g.length g.length) (tabL g s)) := Lib.hid (by
          rw [HE.out, ← HA.out]
          obtain ⟨vs, a, b, c⟩ := HOr.out
          exact ⟨vs, a, ownsRow_base b hws, fun k u r h1 h2 => ownsRow_base (c k u r h1 h2) hws⟩)
        go_wp2
        go_ret2
        exact ⟨_, rfl, HRes.out, HB1.out.trans (HBr.out.mono hws)⟩
  · have HE : Hid (tabL g s = []) := Lib.hid (by unfold tabL; rw [if_neg h0])
    have hcase : chkG g s.length = 19 ∨ chkG g s.length = 20 := by
      rcases chkG_cases g s.length with h | h | h
      · exact absurd h.1 h0
      · exact .inl h
      · exact .inr h
    clear hh hs hz h0
    rcases hcase with h | h
    all_goals
      rw [h] at CC ⊢
      clear h
      go_enter Try.func19, Try.ntmps19
      go_wp2_with fail
      refine CC.out.mono ?_
      rintro e w1 ⟨u, rfl, own1, hb1⟩
      obtain ⟨A1, c1, rfl, _⟩ := own1.at_
      have HB1 := Lib.hid hb1
      clear own1 hb1 CC
      go_wp2
      go_ret2
      exact ⟨_, rfl, by rw [HE.out]; exact rowsOwn_nil _ _, HB1.out⟩
theorem devDist_k : DevDist := fun A B c d g s goal w hh hs hz => (devDistances_c A B c d g s goal w hh hs hz).mono fun _ _ h => h.res
theorem devHops_k : DevHops := fun A B c d g s goal w hh hs hz => (devHops_c A B c d g s goal w hh hs hz).mono fun _ _ h => h.res
theorem devPath_k : DevPath := fun A B c d g s a goal w hh hs hz => (devPath_c A B c d g s a goal w hh hs hz).mono fun _ _ h => h.res
theorem devTable_k : DevTable := fun A B c d g s w hh hs hz => (devTable_c A B c d g s w hh hs hz).mono fun _ _ ⟨u, h1, h2, h3⟩ => by
  obtain ⟨X, cx, rfl, h4⟩ := h2.at_
  exact ⟨X, cx, h1, h4, h3⟩
end Go.Proofs.Ytcfnilemikenhaa
