/- routes' Distances, Hops, Path and Table, for all graphs and marks. -/
import Derived.Test.YtcfnilemikenhaaRpOpen
import Derived.Test.YtcfnilemikenhaaRowPut
namespace Go.Proofs.Ytcfnilemikenhaa
open Go Go.RowKit Fl

set_option maxRecDepth 100000 in
set_option maxHeartbeats 4000000 in
theorem devDistances_c (A B : Option Addr) (c d : Nat) (g : GraphD) (s : List Bool) (goal : Int) (w : World) (hh : RowsAt w A g) (hs : Holds w B (s.map Bo)) (hz : Sized g) :
    Calls Try.prog 12 #[.slice A g.length c, .slice B s.length d, .int .i64 goal] w (ListPost w (disL g s goal) (twoE g s.length goal goal)) := by
  have hba := below_alloc w (.cells #[.int .i64 goal] 3)
  have CC := openGraph_c A B (some ⟨w.heap.size, 0, none⟩) c d 1 g s [goal] (w.alloc (.cells #[.int .i64 goal] 3)) (hh.keep hba) (hs.keep hba) (lit_holds _ _ #[.int .i64 goal] _ _ rfl rfl) hz (by simp)
  rw [opE_one, show ([goal] : List Int).length = 1 from rfl] at CC
  have CC := Lib.hid CC
  have HBA := Lib.hid hba
  rcases twoE_cases g s.length goal goal with h0 | h0 | h0
  · have hz2 := twoE_zero h0
    obtain ⟨hv, hsl, ha, hb⟩ := hz2
    obtain ⟨n, rfl⟩ := Int.eq_ofNat_of_zero_le hb.1
    have hn : n < g.length := by omega
    have HL : Hid (disL g s (n : Int) = distF g s n) := Lib.hid (by unfold disL; rw [if_pos h0, Int.toNat_natCast])
    have HO : Hid (opL g s [(n : Int)] = woG g s) := Lib.hid (by unfold opL; rw [if_pos (by rw [opE_one]; exact h0)])
    have hwl := woG_length g s
    have CI := Lib.hid (fun (A1 : Option Addr) (c1 : Nat) (w1 : World) (h1 : RowsAt w1 A1 (woG g s)) (h2 : Below w.heap.size w w1) => distancesFrom_c A1 B c1 d g s n w1 h1 (hs.keep h2) hv hsl.symm.symm hn)
    have HDL := Lib.hid (distF_length g s n)
    rw [h0] at CC ⊢
    clear hh hs hz h0 hv ha hb hba hsl
    go_enter Try.func12, Try.ntmps12
    go_wp2_with fail
    refine CC.out.mono ?_
    rintro e w1 ⟨u, rfl, own1, hb1⟩
    rw [HO.out] at own1
    obtain ⟨A1, c1, rfl, r1⟩ := own1.at_
    rw [hwl]
    have HB1 := Lib.hid (HBA.out.trans (hb1.mono HBA.out.size))
    have R1 := Lib.hid (CI.out A1 c1 w1 r1 HB1.out)
    clear own1 r1 hb1 CC CI HBA HO hwl
    go_wp2_with fail
    refine R1.out.mono ?_
    rintro e w2 ⟨v, rfl, own2, hb2⟩
    have HO2 := Lib.hid (ownsRow_base own2 HB1.out.size)
    have HB2 := Lib.hid (HB1.out.trans (hb2.mono HB1.out.size))
    clear own2 hb2 R1 HB1
    go_wp2
    go_ret2
    exact ⟨_, rfl, by rw [HL.out, HDL.out]; exact HO2.out, HB2.out⟩
  all_goals
    have HE : Hid (disL g s goal = []) := Lib.hid (by unfold disL; rw [if_neg (by rw [h0]; decide)])
    rw [h0] at CC ⊢
    clear hh hs hz h0 hba
    go_enter Try.func12, Try.ntmps12
    go_wp2_with fail
    refine CC.out.mono ?_
    rintro e w1 ⟨u, rfl, own1, hb1⟩
    obtain ⟨A1, c1, rfl, _⟩ := own1.at_
    have HB1 := Lib.hid (HBA.out.trans (hb1.mono HBA.out.size))
    clear own1 hb1 CC HBA
    go_wp2
    go_ret2
    exact ⟨_, rfl, by rw [HE.out]; exact World.ownsRow_nil _ _ _ _, HB1.out⟩
set_option maxRecDepth 100000 in
set_option maxHeartbeats 4000000 in
theorem devHops_c (A B : Option Addr) (c d : Nat) (g : GraphD) (s : List Bool) (goal : Int) (w : World) (hh : RowsAt w A g) (hs : Holds w B (s.map Bo)) (hz : Sized g) :
    Calls Try.prog 14 #[.slice A g.length c, .slice B s.length d, .int .i64 goal] w (ListPost w (hopL g s goal) (twoE g s.length goal goal)) := by
  have hba := below_alloc w (.cells #[.int .i64 goal] 3)
  have CC := openGraph_c A B (some ⟨w.heap.size, 0, none⟩) c d 1 g s [goal] (w.alloc (.cells #[.int .i64 goal] 3)) (hh.keep hba) (hs.keep hba) (lit_holds _ _ #[.int .i64 goal] _ _ rfl rfl) hz (by simp)
  rw [opE_one, show ([goal] : List Int).length = 1 from rfl] at CC
  have CC := Lib.hid CC
  have HBA := Lib.hid hba
  rcases twoE_cases g s.length goal goal with h0 | h0 | h0
  · have hz2 := twoE_zero h0
    obtain ⟨hv, hsl, ha, hb⟩ := hz2
    obtain ⟨n, rfl⟩ := Int.eq_ofNat_of_zero_le hb.1
    have hn : n < g.length := by omega
    have HL : Hid (hopL g s (n : Int) = hopsL g (distF g s n)) := Lib.hid (by unfold hopL; rw [if_pos h0, Int.toNat_natCast])
    have HO : Hid (opL g s [(n : Int)] = woG g s) := Lib.hid (by unfold opL; rw [if_pos (by rw [opE_one]; exact h0)])
    have hwl := woG_length g s
    have CI := Lib.hid (fun (A1 : Option Addr) (c1 : Nat) (w1 : World) (h1 : RowsAt w1 A1 (woG g s)) (h2 : Below w.heap.size w w1) => hopsTo_c A1 B c1 d g s n w1 h1 (hs.keep h2) hv hsl.symm.symm hn)
    have HDL := Lib.hid (hopsL_len g (distF g s n))
    rw [h0] at CC ⊢
    clear hh hs hz h0 hv ha hb hba hsl
    go_enter Try.func14, Try.ntmps14
    go_wp2_with fail
    refine CC.out.mono ?_
    rintro e w1 ⟨u, rfl, own1, hb1⟩
    rw [HO.out] at own1
    obtain ⟨A1, c1, rfl, r1⟩ := own1.at_
    rw [hwl]
    have HB1 := Lib.hid (HBA.out.trans (hb1.mono HBA.out.size))
    have R1 := Lib.hid (CI.out A1 c1 w1 r1 HB1.out)
    clear own1 r1 hb1 CC CI HBA HO hwl
    go_wp2_with fail
    refine R1.out.mono ?_
    rintro e w2 ⟨v, rfl, own2, hb2⟩
    have HO2 := Lib.hid (ownsRow_base own2 HB1.out.size)
    have HB2 := Lib.hid (HB1.out.trans (hb2.mono HB1.out.size))
    clear own2 hb2 R1 HB1
    go_wp2
    go_ret2
    exact ⟨_, rfl, by rw [HL.out, HDL.out]; exact HO2.out, HB2.out⟩
  all_goals
    have HE : Hid (hopL g s goal = []) := Lib.hid (by unfold hopL; rw [if_neg (by rw [h0]; decide)])
    rw [h0] at CC ⊢
    clear hh hs hz h0 hba
    go_enter Try.func14, Try.ntmps14
    go_wp2_with fail
    refine CC.out.mono ?_
    rintro e w1 ⟨u, rfl, own1, hb1⟩
    obtain ⟨A1, c1, rfl, _⟩ := own1.at_
    have HB1 := Lib.hid (HBA.out.trans (hb1.mono HBA.out.size))
    clear own1 hb1 CC HBA
    go_wp2
    go_ret2
    exact ⟨_, rfl, by rw [HE.out]; exact World.ownsRow_nil _ _ _ _, HB1.out⟩
end Go.Proofs.Ytcfnilemikenhaa
