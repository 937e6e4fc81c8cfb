/- Contract of the reference's hops of layer 7: the first vertex one step nearer, for each vertex. -/
import Derived.Test.YthfhplhdfnebhaaGrDist
import Derived.IntWalk
namespace Go.Proofs.Ythfhplhdfnebhaa
open Go Go.RowKit Fl

/-- The first k elements are hops. -/
def hopsTo (g : GraphD) (dist L : List Int) (k : Nat) : Prop := ∀ j, j < k → L[j]? = some (hopV g dist j)
theorem hopsTo_all {g : GraphD} {dist L : List Int} (hl : L.length = g.length) (h : hopsTo g dist L g.length) : L = hopsL g dist := by
  apply List.ext_getElem?
  intro i
  rcases Nat.lt_or_ge i g.length with hi | hi
  · rw [h i hi, hopsL_at hi]
  · rw [List.getElem?_eq_none (by omega), List.getElem?_eq_none (by simp [hopsL]; omega)]
theorem hopsTo_snoc {g : GraphD} {dist L : List Int} {k : Nat} {z : Int} (h : hopsTo g dist L k) (hk : k < L.length) (hz : z = hopV g dist k) : hopsTo g dist (L.set k z) (k + 1) := fun j hj => by
  rw [List.getElem?_set]
  by_cases e : k = j
  · subst e; simp [hk, hz]
  · rw [if_neg e]; exact h j (by omega)
theorem hopV_pos {g : GraphD} {dist : List Int} {v : Nat} (h : 0 < dist.getD v (-1)) : hopV g dist v = hopOf (rowG g v) dist (dist.getD v (-1)) := by unfold hopV; rw [if_pos h]
theorem hopV_neg {g : GraphD} {dist : List Int} {v : Nat} (h : ¬ 0 < dist.getD v (-1)) : hopV g dist v = -1 := by unfold hopV; rw [if_neg h]
theorem distF_bounds {g : GraphD} {s : List Bool} {goal : Nat} (hg : validG g = true) (hv : goal < g.length) (v : Nat) : -1 ≤ (distF g s goal).getD v (-1) ∧ (distF g s goal).getD v (-1) ≤ 24 := by
  rcases hs : atB s goal with _ | _
  · exact (distF_inv hg hv hs).low v
  · rw [distF_shut hs, List.getD_eq_getElem?_getD, List.getElem?_replicate]
    split <;> simp
set_option maxRecDepth 100000 in
set_option maxHeartbeats 4000000 in
theorem hops_c (A B : Option Addr) (c d : Nat) (g : GraphD) (s : List Bool) (goal : Nat) (w : World) (hh : RowsAt w A g) (hs : Holds w B (s.map Bo)) (hg : validG g = true) (hsl : s.length = g.length) (hgoal : goal < g.length) :
    Calls Try.prog 68 #[.slice A g.length c, .slice B s.length d, .int .i64 goal] w fun e w' => ∃ v, e = .returned v ∧ w'.ownsRow w.heap.size 3 1 v g.length ((hopsL g (distF g s goal)).map Iv) ∧ Below w.heap.size w w' := by
  have CD := Lib.hid (dist_c A B c d g s goal w hh hs hg hsl hgoal)
  have HH := Lib.hid hh
  have HG := Lib.hid hg
  have hl24 := validG_len hg
  have HR := Lib.hid (validG_short hg)
  have HDB := Lib.hid (distF_bounds (s := s) hg hgoal)
  have HDL := Lib.hid (distF_length g s goal)
  clear hh hs hg hsl
  generalize distF g s goal = dist at *
  go_enter Try.func68, Try.ntmps68
  go_wp2_with fail
  refine CD.out.mono ?_
  rintro e w2 ⟨vd, rfl, ownD, hb2⟩
  obtain ⟨AD, cD, rfl, hD⟩ := own_is ownD
  have HD := Lib.hid hD
  have HB2 := Lib.hid hb2
  clear CD ownD hD hb2
  go_wp2_with (refine make_any _ rfl _ _ 25 3 (.int .i64 0) 8 Try.underlying25 Try.infoIntG rfl (by decide) rfl .i64 .i64 _ _ g.length rfl rfl rfl rfl (by omega) ?_)
  intro w3 own3 hb3
  have HO3 : Hid (w3.ownsRow w2.heap.size 3 1 (.slice (some ⟨w2.heap.size, 0, none⟩) g.length g.length) g.length ((List.replicate g.length (0 : Int)).map Iv)) := Lib.hid (by rw [List.map_replicate]; exact own3)
  obtain ⟨G, hG⟩ : ∃ G, G = w2.heap.size := ⟨_, rfl⟩
  rw [← hG] at HO3 hb3 ⊢
  have HGG := Lib.hid hG
  clear own3 hG
  go_wp2
  go_loopw [9] (fun v wr => ∃ (k : Nat) (L : List Int), v = .int .i64 k ∧ k ≤ g.length ∧ L.length = g.length ∧ Hid (hopsTo g dist L k) ∧ Hid (wr.ownsRow G 3 1 (.slice (some ⟨G, 0, none⟩) g.length g.length) g.length (L.map Iv)) ∧ Below G w2 wr) (fun v _ => g.length - (intOf v).toNat)
  case atStart => exact ⟨0, _, rfl, Nat.zero_le _, by simp, Lib.hid (fun j hj => by omega), HO3, hb3⟩
  case round =>
    clear HO3 hb3
    obtain ⟨k, L, rfl, hk, hL, HN, HO, hb⟩ := hrel
    have HGw : Hid (Below w2.heap.size w2 wr) := Lib.hid (by rw [← HGG.out]; exact hb)
    by_cases hlt : k < g.length
    · obtain ⟨hc1, hc2⟩ := own_num HO.out k (by omega)
      obtain ⟨bg, og, A1, c1, rfl, e1, h1⟩ := (HH.out.keep HB2.out).one hlt
      have hbg : bg < w2.heap.size := World.block_lt_of_cell? _ _ e1
      have hrl24 := HR.out _ (List.getElem_mem hlt)
      have HXX := Lib.hid (validG_row HG.out hlt)
      have hrow : g[k] = rowG g k := by unfold rowG; rw [List.getD_eq_getElem?_getD, List.getElem?_eq_getElem hlt]; rfl
      have hkd : k < dist.length := by have := HDL.out; omega
      have hgd : dist.getD k (-1) = dist[k] := by rw [List.getD_eq_getElem?_getD, List.getElem?_eq_getElem hkd]; rfl
      have hdb := HDB.out k
      have HPos := Lib.hid (fun h => hopV_pos (g := g) (dist := dist) (v := k) h)
      have HNeg := Lib.hid (fun h => hopV_neg (g := g) (dist := dist) (v := k) h)
      rw [hgd] at hdb HPos HNeg
      rw [← hrow] at HPos
      obtain ⟨bd, od, rfl, ed⟩ := HD.out.iv hkd
      have hbd : bd < w2.heap.size := World.block_lt_of_cell? _ _ ed
      have H1 := Lib.hid h1
      have HOS := Lib.hid (own_num_set HO.out k (-1))
      have hbS := below_put (i := k) (v := .int .i64 (-1)) hb (Nat.le_refl _)
      have HE1 : Hid (∀ W, Below G w2 W → W.cell? ⟨bg, og + k, none⟩ = some (.slice A1 g[k].length c1)) := Lib.hid (fun W hW => (hW.cell (p := ⟨bg, og + k, none⟩) (by have := HGG.out; show bg < G; omega)).trans e1)
      have HED : Hid (∀ W, Below G w2 W → W.cell? ⟨bd, od + k, none⟩ = some (.int .i64 dist[k])) := Lib.hid (fun W hW => (hW.cell (p := ⟨bd, od + k, none⟩) (by have := HGG.out; show bd < G; omega)).trans ed)
      have e1S := HE1.out _ hbS
      clear hgd h1 hrow ed e1 HO hb HGw
      generalize g[k] = r at *
      generalize hdk : dist[k] = dk at *
      clear hdk
      go_wp2
      clear hc1 hc2 e1S
      generalize wr.setCell ⟨G, k, none⟩ (.int .i64 (-1)) = ws at *
      go_loopw [10] (fun v wr => ∃ (m : Nat) (z : Int), v = .int .i64 z ∧ Hid (z + 1 = (m : Int)) ∧ m ≤ r.length ∧ (0 < dk ∨ m = r.length) ∧ -1 ≤ z ∧ z ≤ 24 ∧ Hid (wr.ownsRow G 3 1 (.slice (some ⟨G, 0, none⟩) g.length g.length) g.length ((L.set k (hopOf (r.drop m) dist dk)).map Iv)) ∧ Below G w2 wr) (fun v _ => (intOf v + 1).toNat)
      case atStart => exact ⟨r.length, _, rfl, Lib.hid (by omega), Nat.le_refl _, .inr rfl, by omega, by omega, Lib.hid (by rw [hopOf_end (Nat.le_refl _)]; exact HOS.out), hbS⟩
      case round =>
        clear HOS hbS
        obtain ⟨m, z, rfl, HZ, hm, hor, hz1, hz2, HO, hb⟩ := hrel
        have e1 := HE1.out _ hb
        have ed := HED.out _ hb
        by_cases hz : 0 ≤ z ∧ 0 < dk
        · obtain ⟨hz0, hdp⟩ := hz
          obtain ⟨i, rfl⟩ := Int.eq_ofNat_of_zero_le hz0
          obtain rfl : m = i + 1 := by have := HZ.out; omega
          have hil : i < r.length := by omega
          obtain ⟨br, or_, rfl, e2⟩ := H1.out.iv hil
          have hbr : br < w2.heap.size := World.block_lt_of_cell? _ _ e2
          have e2r : wr.cell? ⟨br, or_ + i, none⟩ = some (.int .i64 r[i]) := (hb.cell (p := ⟨br, or_ + i, none⟩) (by have := HGG.out; show br < G; omega)).trans e2
          obtain ⟨x0, x1, x2⟩ := HXX.out r[i] (List.getElem_mem hil)
          have HHS := Lib.hid (hopOf_step (dist := dist) (d := dk) hil)
          clear e2
          generalize r[i] = x at *
          obtain ⟨y, rfl⟩ := Int.eq_ofNat_of_zero_le x0
          have hyd : y < dist.length := by have := HDL.out; omega
          obtain ⟨bd2, od2, hBeq, ey⟩ := HD.out.iv hyd
          injection hBeq with hBeq
          injection hBeq with hB1 hB2
          subst hB1 hB2
          have eyr : wr.cell? ⟨bd, od + y, none⟩ = some (.int .i64 dist[y]) := (hb.cell (p := ⟨bd, od + y, none⟩) (by have := HGG.out; show bd < G; omega)).trans ey
          have hat2 : atI dist (y : Int) = dist[y] := by unfold atI; rw [Int.toNat_natCast, List.getD_eq_getElem?_getD, List.getElem?_eq_getElem hyd]; rfl
          rw [hat2] at HHS
          have hcl : (L.set k (hopOf (r.drop (i + 1)) dist dk)).length = g.length := by simpa using hL
          obtain ⟨cu, hc3, hc4⟩ : ∃ cu, wr.cell? ⟨G, k, none⟩ = some (.int .i64 cu) ∧ wr.frozen? ⟨G, k, none⟩ = false := ⟨_, own_num HO.out k (by omega)⟩
          have hdp' : decide (0 < dk) = true := by simpa using hdp
          have hw1 : IntKind.i64.wrap (dk - 1) = dk - 1 := IntWalk.i64_in _ (by omega)
          have hyn : y < g.length := by omega
          clear ey hat2 x0 x1 x2
          by_cases heq : dist[y] = dk - 1
          · have hbq : (dist[y] == dk - 1) = true := by simpa using heq
            replace HHS := HHS.out
            have hts : ∀ q, Hid (((wr.drewN q).setCell ⟨G, k, none⟩ (.int .i64 y)).ownsRow G 3 1 (.slice (some ⟨G, 0, none⟩) g.length g.length) g.length ((L.set k (hopOf (r.drop i) dist dk)).map Iv)) := fun q => Lib.hid (by
              have h := own_num_set (ownsRow_below HO.out (below_drewN (Below.refl _ wr) q)) k (y : Int)
              rw [List.set_set] at h
              rw [HHS, if_pos heq]; exact h)
            have HTS := Lib.hid hts
            clear heq hts HHS
            generalize dist[y] = dy at *
            go_wp2
            go_quiet (fail)
            go_wp2
            go_roundw
            case rel => exact ⟨i, (i : Int) - 1, by go_num, Lib.hid (by omega), by omega, .inl hdp, by omega, by omega, HTS.out _, below_put (below_drewN hb _) (Nat.le_refl _)⟩
            case measure => simp [intOf]
          · have hbq : (dist[y] == dk - 1) = false := by simpa using heq
            rw [if_neg heq] at HHS
            have hts : ∀ q, Hid ((wr.drewN q).ownsRow G 3 1 (.slice (some ⟨G, 0, none⟩) g.length g.length) g.length ((L.set k (hopOf (r.drop i) dist dk)).map Iv)) := fun q => Lib.hid (by
              rw [HHS.out]; exact ownsRow_below HO.out (below_drewN (Below.refl _ wr) q))
            have HTS := Lib.hid hts
            clear heq hts HHS
            generalize dist[y] = dy at *
            go_wp2
            go_quiet (fail)
            go_wp2
            go_roundw
            case rel => exact ⟨i, (i : Int) - 1, by go_num, Lib.hid (by omega), by omega, .inl hdp, by omega, by omega, HTS.out _, below_drewN hb _⟩
            case measure => simp [intOf]
        · have HV : Hid (hopOf (r.drop m) dist dk = hopV g dist k) := Lib.hid (by
            by_cases hp : 0 < dk
            · have hz' : z = -1 := by omega
              obtain rfl : m = 0 := by have := HZ.out; omega
              rw [HPos.out hp]; rfl
            · rw [HNeg.out (by omega)]
              exact hopOf_end (by omega))
          have hcase : decide (0 ≤ z) = false ∨ decide (0 ≤ z) = true ∧ decide (0 < dk) = false := by simp; omega
          clear hor
          rcases hcase with hd | ⟨hd1, hd2⟩
          all_goals
            go_wp2
            go_roundw
            case rel => exact ⟨k + 1, L.set k (hopV g dist k), by go_num, by omega, by simpa using hL, Lib.hid (hopsTo_snoc HN.out (by omega) rfl), Lib.hid (by rw [← HV.out]; exact HO.out), hb⟩
            case measure => simp [intOf]; omega
    · have HE : Hid (L = hopsL g dist) := Lib.hid (hopsTo_all hL (by rw [show g.length = k by omega]; exact HN.out))
      go_wp2
      go_ret
      exact ⟨_, rfl, by rw [← HE.out]; exact ownsRow_base HO.out (by rw [HGG.out]; exact HB2.out.size), HB2.out.trans (HGw.out.mono HB2.out.size)⟩
end Go.Proofs.Ythfhplhdfnebhaa
