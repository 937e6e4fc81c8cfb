/- Contract of routes' hopsTo. -/
import Derived.Test.YtcfnilemikenhaaRpDist
namespace Go.Proofs.Ytcfnilemikenhaa
open Go Go.RowKit Fl

/-- The first k hops, and -1 behind them. -/
def hopsN (g : GraphD) (dist L : List Int) (k : Nat) : Prop := hopsTo g dist L k ∧ ∀ j, k ≤ j → j < g.length → L[j]? = some (-1)
theorem hopsN_stay {g : GraphD} {dist L : List Int} {k : Nat} (h : hopsN g dist L k) (hk : k < g.length) (hz : hopV g dist k = -1) : hopsN g dist L (k + 1) :=
  ⟨fun j hj => by
    rcases Nat.lt_succ_iff_lt_or_eq.1 hj with h1 | rfl
    · exact h.1 j h1
    · rw [hz]; exact h.2 j (Nat.le_refl _) hk, fun j h1 h2 => h.2 j (by omega) h2⟩
theorem hopsN_put {g : GraphD} {dist L : List Int} {k : Nat} {z : Int} (h : hopsN g dist L k) (hk : k < L.length) (hz : z = hopV g dist k) : hopsN g dist (L.set k z) (k + 1) :=
  ⟨hopsTo_snoc h.1 hk hz, fun j h1 h2 => by rw [List.getElem?_set, if_neg (by omega)]; exact h.2 j (by omega) h2⟩
set_option maxRecDepth 100000 in
set_option maxHeartbeats 4000000 in
theorem hopsTo_c (A B : Option Addr) (c d : Nat) (g : GraphD) (s : List Bool) (goal : Nat) (w : World) (hh : RowsAt w A (woG g s)) (hs : Holds w B (s.map Bo)) (hg : validG g = true) (hsl : s.length = g.length) (hgoal : goal < g.length) :
    Calls Try.prog 31 #[.slice A g.length c, .slice B s.length d, .int .i64 goal] w fun e w' => ∃ v, e = .returned v ∧ w'.ownsRow w.heap.size 3 1 v g.length ((hopsL g (distF g s goal)).map Iv) ∧ Below w.heap.size w w' := by
  have CD := Lib.hid (distancesFrom_c A B c d g s goal w hh hs hg hsl hgoal)
  have hl24 := validG_len hg
  have hv := woG_valid (s := s) hg
  have hol := woG_length g s
  have HR := Lib.hid (validG_short hv)
  have HX := Lib.hid (fun (k : Nat) (hk : k < (woG g s).length) => validG_row hv hk)
  have HOL := Lib.hid hol
  have HDB := Lib.hid (distF_bounds (s := s) hg hgoal)
  have HDL := Lib.hid (distF_length g s goal)
  have HHop := Lib.hid (fun (v : Nat) (hv : v < g.length) h => hop_dev (dist := distF g s goal) hv (distF_open (s := s) hgoal) h)
  have HH := Lib.hid hh
  clear hh hs hg hv hol hsl
  generalize distF g s goal = dist at *
  generalize woG g s = O at *
  go_enter Try.func31, Try.ntmps31
  go_wp2_with fail
  refine CD.out.mono ?_
  rintro e w1 ⟨vd, rfl, own1, hb1⟩
  obtain ⟨AD, cD, rfl, hD⟩ := own_is own1
  have HD := Lib.hid hD
  have HB1 := Lib.hid hb1
  clear CD own1 hD hb1
  have CR := Lib.hid (repeat_c w1.heap.size g.length (w1.alloc (.cells #[.int .i64 (-1)] 3)) (new_cellR _ _ _) hl24)
  rw [show (w1.alloc (.cells #[.int .i64 (-1)] 3)).heap.size = w1.heap.size + 1 from by simp] at CR
  go_wp2_with fail
  refine CR.out.mono ?_
  rintro e w2 ⟨rfl, own2, hb2⟩
  have HO2 : Hid (w2.ownsRow (w1.heap.size + 1) 3 1 (.slice (some ⟨w1.heap.size + 1, 0, none⟩) g.length g.length) g.length ((List.replicate g.length (-1 : Int)).map Iv)) := Lib.hid (by rw [List.map_replicate]; exact own2)
  have HB2 := Lib.hid ((below_alloc w1 (.cells #[.int .i64 (-1)] 3)).trans (hb2.mono (by simp)))
  clear own2 hb2 CR
  obtain ⟨G, hG⟩ : ∃ G, G = w1.heap.size + 1 := ⟨_, rfl⟩
  rw [← hG] at HO2 ⊢
  have HGG := Lib.hid hG
  clear hG
  have HN2 : Hid (hopsN g dist (List.replicate g.length (-1 : Int)) 0) := Lib.hid ⟨fun j hj => by omega, fun j _ h2 => by rw [List.getElem?_replicate, if_pos h2]⟩
  have hrl : (List.replicate g.length (-1 : Int)).length = g.length := by simp
  generalize List.replicate g.length (-1 : Int) = ones at *
  go_wp2
  go_loopw [9, 10, 21] (fun _ _ v wr => ∃ (k : Nat) (L : List Int), v = .int .i64 k ∧ k ≤ g.length ∧ Hid (L.length = g.length) ∧ Hid (hopsN g dist L k) ∧ Hid (wr.ownsRow G 3 1 (.slice (some ⟨G, 0, none⟩) g.length g.length) g.length (L.map Iv)) ∧ Hid (Below w1.heap.size w1 wr)) (fun _ _ v _ => g.length - (intOf v).toNat)
  case atStart => exact ⟨0, ones, rfl, Nat.zero_le _, Lib.hid hrl, HN2, HO2, HB2⟩
  case round =>
    clear HO2 HB2 HN2 hrl
    obtain ⟨k, L, rfl, hk, HLL, HN, HO, HB⟩ := hrel
    by_cases hlt : k < g.length
    · have hkd : k < dist.length := by have := HDL.out; omega
      obtain ⟨bd, od, rfl, ed⟩ := HD.out.iv hkd
      have hbd : bd < w1.heap.size := World.block_lt_of_cell? _ _ ed
      have edr : wr.cell? ⟨bd, od + k, none⟩ = some (.int .i64 dist[k]) := (HB.out.cell (p := ⟨bd, od + k, none⟩) hbd).trans ed
      have hgd : dist.getD k (-1) = dist[k] := by rw [List.getD_eq_getElem?_getD, List.getElem?_eq_getElem hkd]; rfl
      have hdb := HDB.out k
      rw [hgd] at hdb
      by_cases hpos : 0 < dist[k]
      · have hdec : decide (0 < dist[k]) = true := by simpa using hpos
        have hkO : k < O.length := by have := HOL.out; omega
        obtain ⟨bg, og, A1, c1, rfl, e1, h1⟩ := HH.out.one hkO
        have hbg : bg < w.heap.size := World.block_lt_of_cell? _ _ e1
        have e1r : wr.cell? ⟨bg, og + k, none⟩ = some (.slice A1 O[k].length c1) := (HB.out.cell (p := ⟨bg, og + k, none⟩) (by have := HB1.out.size; show bg < _; omega)).trans ((HB1.out.cell (p := ⟨bg, og + k, none⟩) hbg).trans e1)
        have hrl24 := HR.out _ (List.getElem_mem hkO)
        have hxx := HX.out k hkO
        have hrow := rowG_at hkO
        have CL := Lib.hid (leastAt_c A1 (some ⟨bd, od, none⟩) c1 cD O[k] dist (dist[k] - 1) wr ((h1.keep HB1.out).keep HB.out) (HD.out.keep HB.out) (fun x hx => by have := hxx x hx; have := HOL.out; have := HDL.out; omega) hrl24)
        have hp := HHop.out k hlt (by show 0 < dist.getD k (-1); omega)
        rw [show dAt dist k = dist[k] from hgd, hrow] at hp
        have HPut := Lib.hid (hopsN_put HN.out (by have := HLL.out; omega) hp)
        have HOS := Lib.hid (own_num_set HO.out k (leastAtF O[k] dist (dist[k] - 1)))
        obtain ⟨cu, hc1, hc2⟩ : ∃ cu, wr.cell? ⟨G, k, none⟩ = some (.int .i64 cu) ∧ wr.frozen? ⟨G, k, none⟩ = false := ⟨_, own_num HO.out k (by have := HLL.out; omega)⟩
        have HBS := Lib.hid (below_put (i := k) (v := .int .i64 (leastAtF O[k] dist (dist[k] - 1))) HB.out (by have := HGG.out; omega : w1.heap.size ≤ G))
        have HLS : Hid ((L.set k (leastAtF O[k] dist (dist[k] - 1))).length = g.length) := Lib.hid (by rw [List.length_set]; exact HLL.out)
        have hw1 : IntKind.i64.wrap (dist[k] - 1) = dist[k] - 1 := IntWalk.i64_in _ (by omega)
        rw [HDL.out] at CL
        clear hgd h1 hxx hp hrow e1 ed hpos HN HO HB HLL HD HDL
        generalize leastAtF O[k] dist (dist[k] - 1) = z at *
        generalize O[k] = r at *
        generalize dist[k] = dk at *
        go_wp2_with fail
        refine CL.out.mono ?_
        rintro e wx ⟨rfl, rfl⟩
        clear CL
        go_wp2
        go_roundw
        case rel => exact ⟨k + 1, _, by go_num, by omega, HLS, HPut, HOS, HBS⟩
        case measure => simp [intOf]; omega
      · have hdec : decide (0 < dist[k]) = false := by simpa using hpos
        have HNS := Lib.hid (hopsN_stay HN.out hlt (hopV_neg (by rw [hgd]; exact hpos)))
        clear hgd hpos HN
        generalize dist[k] = dk at *
        go_wp2
        go_roundw
        case rel => exact ⟨k + 1, L, by go_num, by omega, HLL, HNS, HO, HB⟩
        case measure => simp [intOf]; omega
    · obtain rfl : k = g.length := by omega
      have HF := Lib.hid (hopsTo_all HLL.out HN.out.1)
      go_wp2
      go_ret
      have hs1 := HB1.out.size
      exact ⟨_, rfl, ownsRow_base (by rw [← HF.out]; exact HO.out) (by have := HGG.out; omega), HB1.out.trans (HB.out.mono hs1)⟩
end Go.Proofs.Ytcfnilemikenhaa
