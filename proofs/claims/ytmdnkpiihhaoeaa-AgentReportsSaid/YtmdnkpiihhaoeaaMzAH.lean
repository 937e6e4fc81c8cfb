/- Joined texts. -/
import Derived.Test.YtmdnkpiihhaoeaaMzAG
import Derived.IntWalk
import Derived.Test.YtmdnkpiihhaoeaaMzAB
namespace Go.Proofs.Ytmdnkpiihhaoeaa
open Go Go.RowKit Fl

/-- The first k elements are hops. -/
def hopsTo (g : GraphD) (dist L : List Int) (k : Nat) : Prop := ∀ j, j < k → L[j]? = some (hopV g dist j)
theorem hopsTo_all {g : GraphD} {dist L : List Int} (hl : L.length = g.length) (h : hopsTo g dist L g.length) : L = hopsL g dist := by
  apply List.ext_getElem?
  intro i
  rcases Nat.lt_or_ge i g.length with hi | hi
  · rw [h i hi, hopsL_at hi]
  · rw [List.getElem?_eq_none (by omega), List.getElem?_eq_none (by simp [hopsL]; omega)]
theorem hopsTo_snoc {g : GraphD} {dist L : List Int} {k : Nat} {z : Int} (h : hopsTo g dist L k) (hk : k < L.length) (hz : z = hopV g dist k) : hopsTo g dist (L.set k z) (k + 1) := fun j hj => by
  rw [List.getElem?_set]
  by_cases e : k = j
  · subst e; simp [hk, hz]
  · rw [if_neg e]; exact h j (by omega)
theorem hopV_pos {g : GraphD} {dist : List Int} {v : Nat} (h : 0 < dist.getD v (-1)) : hopV g dist v = hopOf (rowG g v) dist (dist.getD v (-1)) := by unfold hopV; rw [if_pos h]
theorem hopV_neg {g : GraphD} {dist : List Int} {v : Nat} (h : ¬ 0 < dist.getD v (-1)) : hopV g dist v = -1 := by unfold hopV; rw [if_neg h]
theorem distF_bounds {g : GraphD} {s : List Bool} {goal : Nat} (hg : validG g = true) (hv : goal < g.length) (v : Nat) : -1 ≤ (distF g s goal).getD v (-1) ∧ (distF g s goal).getD v (-1) ≤ 24 := by
  rcases hs : atB s goal with _ | _
  · exact (distF_inv hg hv hs).low v
  · rw [distF_shut hs, List.getD_eq_getElem?_getD, List.getElem?_replicate]
    split <;> simp
set_option maxRecDepth 100000 in
set_option maxHeartbeats 4000000 in
theorem hops_c (A B : Option Addr) (c d : Nat) (g : GraphD) (s : List Bool) (goal : Nat) (w : World) (hh : RowsAt w A g) (hs : Holds w B (s.map Bo)) (hg : validG g = true) (hsl : s.length = g.length) (hgoal : goal < g.length) :
    Calls Try.prog 95 #[.slice A g.length c, .slice B s.length d, .int .i64 goal] w fun e w' => ∃ v, e = .returned v ∧ w'.ownsRow w.heap.size 3 1 v g.length ((hopsL g (distF g s goal)).map Iv) ∧ Below w.heap.size w w' := by
  have CD := Lib.hid (dist_c A B c d g s goal w hh hs hg hsl hgoal)
  have HH := Lib.hid hh
  have HG := Lib.hid hg
  have hl24 := validG_len hg
  have HR := Lib.hid (validG_short hg)
  have HDB := Lib.hid (distF_bounds (s := s) hg hgoal)
  have HDL := Lib.hid (distF_length g s goal)
  clear hh hs hg hsl
  generalize distF g s goal = dist at *
  go_enter Try.func95, Try.ntmps95
  go_wp2_with fail
  refine CD.out.mono ?_
  rintro e w2 ⟨vd, rfl, ownD, hb2⟩
  obtain ⟨AD, cD, rfl, hD⟩ := own_is ownD
  have HD := Lib.hid hD
  have HB2 := Lib.hid hb2
  clear CD ownD hD hb2
  go_wp2_with (refine make_any _ rfl _ _ 25 3 (.int .i64 0) 8 Try.underlying25 Try.infoIntG rfl (by decide) rfl .i64 .i64 _ _ g.length rfl rfl rfl rfl (by omega) ?_)
  intro w3 own3 hb3
  have HO3 : Hid (w3.ownsRow w2.heap.size 3 1 (.slice (some ⟨w2.heap.size, 0, none⟩) g.length g.length) g.length ((List.replicate g.length (0 : Int)).map Iv)) := Lib.hid (by rw [List.map_replicate]; exact own3)
  obtain ⟨G, hG⟩ : ∃ G, G = w2.heap.size := ⟨_, rfl⟩
  rw [← hG] at HO3 hb3 ⊢
  have HGG := Lib.hid hG
  clear own3 hG
  go_wp2
  go_loopw [9] (fun v wr => ∃ (k : Nat) (L : List Int), v = .int .i64 k ∧ k ≤ g.length ∧ L.length = g.length ∧ Hid (hopsTo g dist L k) ∧ Hid (wr.ownsRow G 3 1 (.slice (some ⟨G, 0, none⟩) g.length g.length) g.length (L.map Iv)) ∧ Below G w2 wr) (fun v _ => g.length - (intOf v).toNat)
  case atStart => exact ⟨0, _, rfl, Nat.zero_le _, by simp, Lib.hid (fun j hj => by omega), HO3, hb3⟩
  case round =>
    clear HO3 hb3
    obtain ⟨k, L, rfl, hk, hL, HN, HO, hb⟩ := hrel
    have HGw : Hid (Below w2.heap.size w2 wr) := Lib.hid (by rw [← HGG.out]; exact hb)
    by_cases hlt : k < g.length
    · obtain ⟨hc1, hc2⟩ := own_num HO.out k (by omega)
      obtain ⟨bg, og, A1, c1, rfl, e1, h1⟩ := (HH.out.keep HB2.out).one hlt
      have hbg : bg < w2.heap.size := World.block_lt_of_cell? _ _ e1
      have hrl24 := HR.out _ (List.getElem_mem hlt)
      have HXX := Lib.hid (validG_row HG.out hlt)
      have hrow : g[k] = rowG g k := by unfold rowG; rw [List.getD_eq_getElem?_getD, List.getElem?_eq_getElem hlt]; rfl
      have hkd : k < dist.length := by have := HDL.out; omega
      have hgd : dist.getD k (-1) = dist[k] := by rw [List.getD_eq_getElem?_getD, List.getElem?_eq_getElem hkd]; rfl
      have hdb := HDB.out k
      have HPos := Lib.hid (fun h => hopV_pos (g := g) (dist := dist) (v := k) h)
      have HNeg := Lib.hid (fun h => hopV_neg (g := g) (dist := dist) (v := k) h)
      rw [hgd] at hdb HPos HNeg
      rw [← hrow] at HPos
      obtain ⟨bd, od, rfl, ed⟩ := HD.out.iv hkd
      have hbd : bd < w2.heap.size := World.block_lt_of_cell? _ _ ed
      have H1 := Lib.hid h1
      have HOS := Lib.hid (own_num_set HO.out k (-1))
      have hbS := below_put (i := k) (v := .int .i64 (-1)) hb (Nat.le_refl _)
      have HE1 : Hid (∀ W, Below G w2 W → W.cell? ⟨bg, og + k, none⟩ = some (.slice A1 g[k].length c1)) := Lib.hid (fun W hW => (hW.cell (p := ⟨bg, og + k, none⟩) (by have := HGG.out; show bg < G; omega)).trans e1)
      have HED : Hid (∀ W, Below G w2 W → W.cell? ⟨bd, od + k, none⟩ = some (.int .i64 dist[k])) := Lib.hid (fun W hW => (hW.cell (p := ⟨bd, od + k, none⟩) (by have := HGG.out; show bd < G; omega)).trans ed)
      have e1S := HE1.out _ hbS
      clear hgd h1 hrow ed e1 HO hb HGw
      generalize g[k] = r at *
      generalize hdk : dist[k] = dk at *
      clear hdk
      go_wp2
      clear hc1 hc2 e1S
      generalize wr.setCell ⟨G, k, none⟩ (.int .i64 (-1)) = ws at *
      go_loopw [10] (fun v wr => ∃ (m : Nat) (z : Int), v = .int .i64 z ∧ Hid (z + 1 = (m : Int)) ∧ m ≤ r.length ∧ (0 < dk ∨ m = r.length) ∧ -1 ≤ z ∧ z ≤ 24 ∧ Hid (wr.ownsRow G 3 1 (.slice (some ⟨G, 0, none⟩) g.length g.length) g.length ((L.set k (hopOf (r.drop m) dist dk)).map Iv)) ∧ Below G w2 wr) (fun v _ => (intOf v + 1).toNat)
      case atStart => exact ⟨r.length, _, rfl, Lib.hid (by omega), Nat.le_refl _, .inr rfl, by omega, by omega, Lib.hid (by rw [hopOf_end (Nat.le_refl _)]; exact HOS.out), hbS⟩
      case round =>
        clear HOS hbS
        obtain ⟨m, z, rfl, HZ, hm, hor, hz1, hz2, HO, hb⟩ := hrel
        have e1 := HE1.out _ hb
        have ed := HED.out _ hb
        by_cases hz : 0 ≤ z ∧ 0 < dk
        · obtain ⟨hz0, hdp⟩ := hz
          obtain ⟨i, rfl⟩ := Int.eq_ofNat_of_zero_le hz0
          obtain rfl : m = i + 1 := by have := HZ.out; omega
          have hil : i < r.length := by omega
          obtain ⟨br, or_, rfl, e2⟩ := H1.out.iv hil
          have hbr : br < w2.heap.size := World.block_lt_of_cell? _ _ e2
          have e2r : wr.cell? ⟨br, or_ + i, none⟩ = some (.int .i64 r[i]) := (hb.cell (p := ⟨br, or_ + i, none⟩) (by have := HGG.out; show br < G; omega)).trans e2
          obtain ⟨x0, x1, x2⟩ := HXX.out r[i] (List.getElem_mem hil)
          have HHS := Lib.hid (hopOf_step (dist := dist) (d := dk) hil)
          clear e2
          generalize r[i] = x at *
          obtain ⟨y, rfl⟩ := Int.eq_ofNat_of_zero_le x0
          have hyd : y < dist.length := by have := HDL.out; omega
          obtain ⟨bd2, od2, hBeq, ey⟩ := HD.out.iv hyd
          injection hBeq with hBeq
          injection hBeq with hB1 hB2
          subst hB1 hB2
          have eyr : wr.cell? ⟨bd, od + y, none⟩ = some (.int .i64 dist[y]) := (hb.cell (p := ⟨bd, od + y, none⟩) (by have := HGG.out; show bd < G; omega)).trans ey
          have hat2 : atI dist (y : Int) = dist[y] := by unfold atI; rw [Int.toNat_natCast, List.getD_eq_getElem?_getD, List.getElem?_eq_getElem hyd]; rfl
          rw [hat2] at HHS
          have hcl : (L.set k (hopOf (r.drop (i + 1)) dist dk)).length = g.length := by simpa using hL
          obtain ⟨cu, hc3, hc4⟩ : ∃ cu, wr.cell? ⟨G, k, none⟩ = some (.int .i64 cu) ∧ wr.frozen? ⟨G, k, none⟩ = false := ⟨_, own_num HO.out k (by omega)⟩
          have hdp' : decide (0 < dk) = true := by simpa using hdp
          have hw1 : IntKind.i64.wrap (dk - 1) = dk - 1 := IntWalk.i64_in _ (by omega)
          have hyn : y < g.length := by omega
          clear ey hat2 x0 x1 x2
          by_cases heq : dist[y] = dk - 1
          · have hbq : (dist[y] == dk - 1) = true := by simpa using heq
            replace HHS := HHS.out
            have hts : ∀ q, Hid (((wr.drewN q).setCell ⟨G, k, none⟩ (.int .i64 y)).ownsRow G 3 1 (.slice (some ⟨G, 0, none⟩) g.length g.length) g.length ((L.set k (hopOf (r.drop i) dist dk)).map Iv)) := fun q => Lib.hid (by
              have h := own_num_set (ownsRow_below HO.out (below_drewN (Below.refl _ wr) q)) k (y : Int)
              rw [List.set_set] at h
              rw [HHS, if_pos heq]; exact h)
            have HTS := Lib.hid hts
            clear heq hts HHS
            generalize dist[y] = dy at *
            go_wp2
            go_quiet (fail)
            go_wp2
            go_roundw
            case rel => exact ⟨i, (i : Int) - 1, by go_num, Lib.hid (by omega), by omega, .inl hdp, by omega, by omega, HTS.out _, below_put (below_drewN hb _) (Nat.le_refl _)⟩
            case measure => simp [intOf]
          · have hbq : (dist[y] == dk - 1) = false := by simpa using heq
            rw [if_neg heq] at HHS
            have hts : ∀ q, Hid ((wr.drewN q).ownsRow G 3 1 (.slice (some ⟨G, 0, none⟩) g.length g.length) g.length ((L.set k (hopOf (r.drop i) dist dk)).map Iv)) := fun q => Lib.hid (by
              rw [HHS.out]; exact ownsRow_below HO.out (below_drewN (Below.refl _ wr) q))
            have HTS := Lib.hid hts
            clear heq hts HHS
            generalize dist[y] = dy at *
            go_wp2
            go_quiet (fail)
            go_wp2
            go_roundw
            case rel => exact ⟨i, (i : Int) - 1, by go_num, Lib.hid (by omega), by omega, .inl hdp, by omega, by omega, HTS.out _, below_drewN hb _⟩
            case measure => simp [intOf]
        · have HV : Hid (hopOf (r.drop m) dist dk = hopV g dist k) := Lib.hid (by
            by_cases hp : 0 < dk
            · have hz' : z = -1 := by omega
              obtain rfl : m = 0 := by have := HZ.out; omega
              rw [HPos.out hp]; rfl
            · rw [HNeg.out (by omega)]
              exact hopOf_end (by omega))
          have hcase : decide (0 ≤ z) = false ∨ decide (0 ≤ z) = true ∧ decide (0 < dk) = false := by simp; omega
          clear hor
          rcases hcase with hd | ⟨hd1, hd2⟩
          all_goals
            go_wp2
            go_roundw
            case rel => exact ⟨k + 1, L.set k (hopV g dist k), by go_num, by omega, by simpa using hL, Lib.hid (hopsTo_snoc HN.out (by omega) rfl), Lib.hid (by rw [← HV.out]; exact HO.out), hb⟩
            case measure => simp [intOf]; omega
    · have HE : Hid (L = hopsL g dist) := Lib.hid (hopsTo_all hL (by rw [show g.length = k by omega]; exact HN.out))
      go_wp2
      go_ret
      exact ⟨_, rfl, by rw [← HE.out]; exact ownsRow_base HO.out (by rw [HGG.out]; exact HB2.out.size), HB2.out.trans (HGw.out.mono HB2.out.size)⟩
end Go.Proofs.Ytmdnkpiihhaoeaa
namespace Go.Proofs.Ytmdnkpiihhaoeaa
open Go Go.RowKit Fl

theorem own_one {w : World} {base F : Nat} {e : TypeId} {u : Value} (h : w.heap[F]? = some (.cells #[u] e (0, 0))) (hb : base ≤ F) : w.ownsRow base e 1 (.slice (some ⟨F, 0, none⟩) 1 1) 1 [u] :=
  ⟨rfl, .inr ⟨F, 1, _, rfl, hb, h, Nat.le_refl _, by unfold maxLen; omega, rfl, rfl⟩⟩
theorem pathF_tail {h : List Int} {f : Nat} {v y : Int} (e : atI h v = y) : (pathF h (f + 1) v).tail = y :: (pathF h f y).tail := by
  unfold pathF
  rw [e]
  cases f <;> rfl
theorem hopsL_atI {g : GraphD} {dist : List Int} {v : Nat} (hv : v < g.length) : atI (hopsL g dist) v = hopV g dist v := by
  unfold atI; rw [Int.toNat_natCast, List.getD_eq_getElem?_getD, hopsL_at hv]; rfl
set_option maxRecDepth 100000 in
set_option maxHeartbeats 4000000 in
theorem first_c (A B : Option Addr) (c d : Nat) (g : GraphD) (s : List Bool) (a goal : Nat) (w : World) (hh : RowsAt w A g) (hs : Holds w B (s.map Bo)) (hg : validG g = true) (hsl : s.length = g.length) (ha : a < g.length) (hgoal : goal < g.length) :
    Calls Try.prog 88 #[.slice A g.length c, .slice B s.length d, .int .i64 a, .int .i64 goal] w fun e w' => ∃ v, e = .returned v ∧ w'.ownsRow w.heap.size 3 1 v (firstF g s a goal).length ((firstF g s a goal).map Iv) ∧ Below w.heap.size w w' := by
  have CD := Lib.hid (dist_c A B c d g s goal w hh hs hg hsl hgoal)
  have CH := Lib.hid (fun W (hW : Below w.heap.size w W) => hops_c A B c d g s goal W (hh.keep hW) (hs.keep hW) hg hsl hgoal)
  have HG := Lib.hid hg
  have HSht := Lib.hid (fun h : atB s goal = true => distF_shut (g := g) h)
  have HInv := Lib.hid (fun h : atB s goal = false => distF_inv hg hgoal h)
  have HDL := Lib.hid (distF_length g s goal)
  have HF : Hid (firstF g s a goal = if (distF g s goal).getD a (-1) < 0 then [] else pathF (hopsL g (distF g s goal)) ((distF g s goal).getD a (-1)).toNat a) := Lib.hid rfl
  clear hh hs hg hsl
  generalize firstF g s a goal = res at *
  generalize distF g s goal = dist at *
  go_enter Try.func88, Try.ntmps88
  go_wp2_with fail
  refine CD.out.mono ?_
  rintro e w2 ⟨vd, rfl, ownD, hb2⟩
  obtain ⟨AD, cD, rfl, hD⟩ := own_is ownD
  have had : a < dist.length := by have := HDL.out; omega
  obtain ⟨bd, od, rfl, ed⟩ := hD.iv had
  have hgd : dist.getD a (-1) = dist[a] := by rw [List.getD_eq_getElem?_getD, List.getElem?_eq_getElem had]; rfl
  rw [hgd] at HF
  have HGD := Lib.hid hgd
  have HB2 := Lib.hid hb2
  clear CD ownD hD hb2 hgd
  by_cases hneg : dist[a] < 0
  · have hdec : decide (dist[a] < 0) = true := by simpa using hneg
    rw [if_pos hneg] at HF
    clear hneg HGD
    generalize dist[a] = da at *
    go_wp2
    go_ret
    exact ⟨_, rfl, by rw [HF.out]; exact World.ownsRow_nil _ _ _ _, HB2.out⟩
  · have hdec : decide (dist[a] < 0) = false := by simpa using hneg
    have hso : atB s goal = false := by
      rcases h : atB s goal with _ | _
      · rfl
      · exfalso
        apply hneg
        rw [← HGD.out, HSht.out h, List.getD_eq_getElem?_getD, List.getElem?_replicate]
        split <;> simp
    have HI := Lib.hid (HInv.out hso)
    have HLow := Lib.hid (HI.out.low a)
    rw [if_neg hneg] at HF
    rw [HGD.out] at HLow
    obtain ⟨f0, hf0⟩ := Int.eq_ofNat_of_zero_le (show 0 ≤ dist[a] by omega)
    have hf24 : f0 ≤ 24 := by have := HLow.out; omega
    have HF0 : Hid (dist.getD a (-1) = (f0 : Int)) := Lib.hid (HGD.out.trans hf0)
    rw [hf0, Int.toNat_natCast] at HF
    rw [hf0] at ed hdec
    have HCH := Lib.hid (CH.out w2 HB2.out)
    clear hneg hf0 HGD HLow hso HInv HSht CH
    go_wp2_with fail
    refine HCH.out.mono ?_
    rintro e w3 ⟨vh, rfl, ownH, hb3⟩
    obtain ⟨AH, cH, rfl, hH⟩ := own_is ownH
    have HH := Lib.hid hH
    have HB3 := Lib.hid (HB2.out.trans (hb3.mono HB2.out.size))
    clear ownH hH hb3 HCH ed hdec
    go_wp2
    have own4 : (w3.alloc (.cells #[.int .i64 a] 3)).ownsRow w3.heap.size 3 1 (.slice (some ⟨w3.heap.size, 0, none⟩) 1 1) ([(a : Int)]).length (([(a : Int)]).map Iv) := own_one (heap_alloc_new w3 _) (Nat.le_refl _)
    have hb4 : Below w3.heap.size w3 (w3.alloc (.cells #[.int .i64 a] 3)) := (Below.refl _ _).alloc (Nat.le_refl _) _
    have HO4 := Lib.hid own4
    have HP4 : Hid ([(a : Int)] ++ (pathF (hopsL g dist) f0 a).tail = res) := Lib.hid (by rw [HF.out]; cases f0 <;> rfl)
    clear own4 HF
    go_loopw [2, 10] (fun u v wr => ∃ (cur f : Nat) (out : List Int), u = .int .i64 cur ∧ cur < g.length ∧ Hid (dist.getD cur (-1) = (f : Int)) ∧ f ≤ 24 ∧ out.length ≤ 25 - f ∧ Hid (out ++ (pathF (hopsL g dist) f cur).tail = res) ∧ Hid (wr.ownsRow w3.heap.size 3 1 v out.length (out.map Iv)) ∧ Below w3.heap.size w3 wr) (fun u _ _ => (dist.getD (intOf u).toNat (-1)).toNat)
    case atStart => exact ⟨a, f0, _, rfl, ha, HF0, hf24, by simp; omega, HP4, HO4, hb4⟩
    case round =>
      clear HO4 HP4 hb4 HF0 hf24
      obtain ⟨cur, f, out, rfl, hcur, HFc, hf24, hol, HP, HO, hb⟩ := hrel
      by_cases hcg : cur = goal
      · have hne : ((cur : Int) != (goal : Int)) = false := by simp [hcg]
        have hf0 : f = 0 := by
          have h := (HI.out.goal cur hcur).2 hcg
          rw [HFc.out] at h
          omega
        have HR : Hid (out = res) := Lib.hid (by
          have h := HP.out
          rw [hf0] at h
          simpa [pathF] using h)
        clear HP
        go_wp2
        go_ret
        exact ⟨_, rfl, by rw [← HR.out]; exact ownsRow_base HO.out HB3.out.size, HB3.out.trans (hb.mono HB3.out.size)⟩
      · have hne : ((cur : Int) != (goal : Int)) = true := by rw [bne_iff_ne]; omega
        have hpos : 0 < dist.getD cur (-1) := by
          rw [HFc.out]
          rcases Nat.eq_zero_or_pos f with h | h
          · exfalso
            apply hcg
            apply (HI.out.goal cur hcur).1
            rw [HFc.out, h]; rfl
          · omega
        obtain ⟨y, hy1, hy2, hy3⟩ := hop_near HI.out HG.out hcur hpos
        rw [HFc.out] at hpos hy3
        obtain ⟨f', rfl⟩ : ∃ f', f = f' + 1 := ⟨f - 1, by omega⟩
        have HFy : Hid (dist.getD y (-1) = (f' : Int)) := Lib.hid (by rw [hy3]; omega)
        have HP2 : Hid ((out ++ [(y : Int)]) ++ (pathF (hopsL g dist) f' y).tail = res) := Lib.hid (by
          rw [← HP.out, pathF_tail (y := (y : Int)) (by rw [hopsL_atI hcur, hy1])]
          simp)
        have hhl : cur < (hopsL g dist).length := by simp [hopsL]; exact hcur
        obtain ⟨bh, oh, rfl, eh⟩ := HH.out.iv hhl
        have hbh : bh < w3.heap.size := World.block_lt_of_cell? _ _ eh
        have hhy : (hopsL g dist)[cur] = (y : Int) := by
          have h := hopsL_at (dist := dist) hcur
          rw [List.getElem?_eq_getElem hhl, hy1] at h
          injection h
        rw [hhy] at eh
        have ehr : wr.cell? ⟨bh, oh + cur, none⟩ = some (.int .i64 y) := (hb.cell (p := ⟨bh, oh + cur, none⟩) hbh).trans eh
        have base := own_base HO.out
        have hsz := hb.size
        have HMs : Hid (dist.getD cur (-1) = ((f' + 1 : Nat) : Int)) := Lib.hid HFc.out
        clear hcg hpos hy1 hy3 hhy eh HP HFc
        go_wp2_with (at_builtin; refine app_int _ rfl _ _ rfl w3.heap.size _ _ _ rfl (HO.out.alloc _) wr.heap.size y rfl (by simp [go_sem]) (by omega) (by simp; omega) ?_)
        intro v8 w8 own8 hg8
        have hb8 : Below w3.heap.size w3 w8 := (hb.alloc hb.size _).grown hg8 (by simp; omega) (fun k hk => base k hk)
        have HO8 : Hid (w8.ownsRow w3.heap.size 3 1 v8 (out ++ [(y : Int)]).length ((out ++ [(y : Int)]).map Iv)) := Lib.hid (by simpa using own8)
        clear own8 hg8 base HO
        go_wp2
        go_roundw
        case rel => exact ⟨y, f', _, rfl, hy2, HFy, by omega, by simp; omega, HP2, HO8, hb8⟩
        case measure => simp only [intOf, Int.toNat_natCast]; rw [HFy.out, HMs.out]; omega
end Go.Proofs.Ytmdnkpiihhaoeaa
namespace Go.Proofs.Ytmdnkpiihhaoeaa
open Go Go.RowKit Fl

set_option maxRecDepth 100000 in
set_option maxHeartbeats 2000000 in
theorem refGValid_c (A : Option Addr) (c : Nat) (g : GraphD) (w : World) (hh : RowsAt w A g) (hl : g.length ≤ 1000000000000000000) (hr : ∀ r ∈ g, r.length ≤ 1000000000000000000) :
    Calls Try.prog 86 #[.slice A g.length c] w fun e w' => e = .returned (.bool (validG g)) ∧ w = w' := by
  have HH := Lib.hid hh
  have HR := Lib.hid hr
  clear hh hr
  by_cases h24 : 24 < g.length
  · have HD : Hid (validG g = false) := Lib.hid (by unfold validG; rw [decide_eq_false (by omega)]; rfl)
    have hd : decide ((24 : Int) < (g.length : Int)) = true := by simp; omega
    go_enter Try.func86, Try.ntmps86
    go_wp2
    go_ret
    exact ⟨gr_bool HD.out.symm, rfl⟩
  · go_enter Try.func86, Try.ntmps86
    go_wp2
    go_loop [3] (fun v => ∃ k : Nat, k ≤ g.length ∧ v = .int .i64 k ∧ Hid (validG g = rowsOk g.length k (g.drop k))) (fun v => g.length - (intOf v).toNat)
    case atStart => exact ⟨0, Nat.zero_le _, rfl, Lib.hid (by unfold validG; rw [decide_eq_true (by omega), Bool.true_and]; rfl)⟩
    case round =>
      obtain ⟨k, hk, rfl, HV⟩ := hrel
      by_cases hlt : k < g.length
      · obtain ⟨b, o, A1, c1, rfl, e1, h1⟩ := HH.out.one hlt
        have hrl := HR.out _ (List.getElem_mem hlt)
        have HV1 : Hid (validG g = (rowOk g.length k (prevOf g[k] 0) (g[k].drop 0) && rowsOk g.length ((k : Int) + 1) (g.drop (k + 1)))) := Lib.hid (by rw [HV.out, rowsOk_step hlt]; rfl)
        have H1 := Lib.hid h1
        clear HV h1
        generalize g[k] = r at *
        go_wp2
        go_loop [4] (fun v => ∃ j : Nat, j ≤ r.length ∧ v = .int .i64 j ∧ Hid (validG g = (rowOk g.length k (prevOf r j) (r.drop j) && rowsOk g.length ((k : Int) + 1) (g.drop (k + 1))))) (fun v => r.length - (intOf v).toNat)
        case atStart => exact ⟨0, Nat.zero_le _, rfl, HV1⟩
        case round =>
          clear HV1
          obtain ⟨j, hj, rfl, HV⟩ := hrel
          by_cases hjt : j < r.length
          · obtain ⟨b2, o2, rfl, e2⟩ := H1.out.iv hjt
            have HS : Hid (rowOk g.length k (prevOf r j) (r.drop j) = ((decide (0 ≤ r[j] ∧ r[j] < g.length ∧ r[j] ≠ k) && overP (prevOf r j) r[j]) && rowOk g.length k (prevOf r (j + 1)) (r.drop (j + 1)))) := Lib.hid (rowOk_step hjt)
            by_cases hin : 0 ≤ r[j] ∧ r[j] < g.length ∧ r[j] ≠ k
            · obtain ⟨hn0, hn1, hn2⟩ := hin
              have hd1 : decide (r[j] < 0) = false := by simp; omega
              have hd2 : decide ((g.length : Int) ≤ r[j]) = false := by simp; omega
              have hd3 : (r[j] == (k : Int)) = false := by simpa using hn2
              by_cases hj0 : j = 0
              · subst hj0
                have HV2 := Lib.hid (HV.out.trans (by rw [HS.out, decide_eq_true ⟨hn0, hn1, hn2⟩]; rfl : _ = (rowOk g.length k (prevOf r 1) (r.drop 1) && rowsOk g.length ((k : Int) + 1) (g.drop (k + 1)))))
                clear HS HV hn2
                generalize r[0] = x at *
                rw [Nat.add_zero] at e2
                go_wp2
                go_round
                case rel => exact ⟨1, by omega, by go_num, HV2⟩
                case measure => simp [intOf]; omega
              · have hjp : j - 1 < r.length := by omega
                obtain ⟨b3, o3, hA3, e3⟩ := H1.out.iv hjp
                obtain ⟨rfl, rfl⟩ : b2 = b3 ∧ o2 = o3 := by injection hA3 with h; injection h with h1 h2; exact ⟨h1, h2⟩
                clear hA3
                have hpv : prevOf r j = some r[j - 1] := by
                  obtain ⟨i, rfl⟩ : ∃ i, j = i + 1 := ⟨j - 1, by omega⟩
                  simp [prevOf]
                have hpos : 0 < j := by omega
                have hcast : (j : Int) - 1 = ((j - 1 : Nat) : Int) := by omega
                by_cases hlo : r[j - 1] < r[j]
                · have hd4 : decide (r[j] ≤ r[j - 1]) = false := by simp; omega
                  have HV2 := Lib.hid (HV.out.trans (by rw [HS.out, decide_eq_true ⟨hn0, hn1, hn2⟩, hpv, show overP (some r[j - 1]) r[j] = true by simpa [overP] using hlo]; rfl : _ = (rowOk g.length k (prevOf r (j + 1)) (r.drop (j + 1)) && rowsOk g.length ((k : Int) + 1) (g.drop (k + 1)))))
                  clear HS HV hn2 hpv hlo
                  generalize r[j] = x at *
                  generalize r[j - 1] = y at *
                  go_wp2
                  go_round
                  case rel => exact ⟨j + 1, by omega, by go_num, HV2⟩
                  case measure => simp [intOf]; omega
                · have hd4 : decide (r[j] ≤ r[j - 1]) = true := by simp; omega
                  have HV2 : Hid (validG g = false) := Lib.hid (by rw [HV.out, HS.out, hpv, show overP (some r[j - 1]) r[j] = false by simpa [overP] using hlo]; simp)
                  clear HS HV hn2 hpv hlo
                  generalize r[j] = x at *
                  generalize r[j - 1] = y at *
                  go_wp2
                  go_ret
                  exact ⟨gr_bool HV2.out.symm, rfl⟩
            · have HV2 : Hid (validG g = false) := Lib.hid (by rw [HV.out, HS.out, decide_eq_false hin]; rfl)
              clear HS HV
              have hor : decide (r[j] < 0) = true ∨ decide (r[j] < 0) = false ∧ decide ((g.length : Int) ≤ r[j]) = true ∨ decide (r[j] < 0) = false ∧ decide ((g.length : Int) ≤ r[j]) = false ∧ (r[j] == (k : Int)) = true := by
                simp only [decide_eq_true_eq, decide_eq_false_iff_not, beq_iff_eq]
                omega
              clear hin
              generalize r[j] = x at *
              rcases hor with hd1 | ⟨hd1, hd2⟩ | ⟨hd1, hd2, hd3⟩
              all_goals
                go_wp2
                go_ret
                exact ⟨gr_bool HV2.out.symm, rfl⟩
          · have HV2 := Lib.hid (HV.out.trans (by rw [rowOk_end (by omega), Bool.true_and] : _ = rowsOk g.length ((k : Int) + 1) (g.drop (k + 1))))
            clear HV
            go_wp2
            go_round
            case rel => exact ⟨k + 1, by omega, by go_num, Lib.hid (by rw [HV2.out]; rfl)⟩
            case measure => simp [intOf]; omega
      · have HV2 : Hid (validG g = true) := Lib.hid (by rw [HV.out, rowsOk_end (by omega)])
        clear HV
        go_wp2
        go_ret
        exact ⟨gr_bool HV2.out.symm, rfl⟩
/-- The first error of a graph with m shut marks. -/
def chkG (g : GraphD) (m : Nat) : Int := if validG g then (if m = g.length then 0 else 19) else 20
theorem refCheck_c (A B : Option Addr) (c d m : Nat) (g : GraphD) (w : World) (hh : RowsAt w A g) (hl : g.length ≤ 1000000000000000000) (hr : ∀ r ∈ g, r.length ≤ 1000000000000000000) :
    Calls Try.prog 77 #[.slice A g.length c, .slice B m d] w fun e w' => e = .returned (.int .i64 (chkG g m)) ∧ w = w' := by
  have C := Lib.hid (refGValid_c A c g w hh hl hr)
  clear hh hr
  rcases hv : validG g with _ | _
  · have HD : Hid (chkG g m = 20) := Lib.hid (by unfold chkG; rw [hv]; rfl)
    rw [hv] at C
    clear hv
    go_enter Try.func77, Try.ntmps77
    go_wp2_with fail
    refine C.out.mono ?_
    rintro e w1 ⟨rfl, rfl⟩
    go_wp2
    go_ret
    exact ⟨gr_int HD.out.symm, rfl⟩
  · rw [hv] at C
    by_cases hm : m = g.length
    · have HD : Hid (chkG g m = 0) := Lib.hid (by unfold chkG; rw [hv, hm]; simp)
      subst hm
      clear hv
      have hne : ((g.length : Int) != (g.length : Int)) = false := by simp
      go_enter Try.func77, Try.ntmps77
      go_wp2_with fail
      refine C.out.mono ?_
      rintro e w1 ⟨rfl, rfl⟩
      go_wp2
      go_ret
      exact ⟨gr_int HD.out.symm, rfl⟩
    · have HD : Hid (chkG g m = 19) := Lib.hid (by unfold chkG; rw [hv]; simp [hm])
      clear hv
      have hne : ((m : Int) != (g.length : Int)) = true := by rw [bne_iff_ne]; omega
      go_enter Try.func77, Try.ntmps77
      go_wp2_with fail
      refine C.out.mono ?_
      rintro e w1 ⟨rfl, rfl⟩
      go_wp2
      go_ret
      exact ⟨gr_int HD.out.symm, rfl⟩
end Go.Proofs.Ytmdnkpiihhaoeaa
namespace Go.Proofs.Ytmdnkpiihhaoeaa
open Go Go.RowKit Fl

theorem bestK_succ {row dist : List Int} {k : Nat} (h : k < row.length) : bestK row dist (k + 1) = if 0 ≤ atI dist row[k] ∧ (bestK row dist k < 0 ∨ atI dist row[k] < atI dist (bestK row dist k)) then row[k] else bestK row dist k := by
  have e : row.getD k 0 = row[k] := by rw [List.getD_eq_getElem?_getD, List.getElem?_eq_getElem h]; rfl
  rw [bestK]
  simp only [e]
theorem atI_nat {l : List Int} {y : Nat} (h : y < l.length) : atI l (y : Int) = l[y] := by unfold atI; rw [Int.toNat_natCast, List.getD_eq_getElem?_getD, List.getElem?_eq_getElem h]; rfl
theorem Holds.news {w : World} {b o : Nat} {xs : List Value} (h : Holds w (some ⟨b, o, none⟩) xs) {m : Nat} : ∀ j u, (xs.take m)[j]? = some u → w.cell? ((⟨b, o, none⟩ : Addr).add j) = some u := fun j u hu => by
  have hadd : (⟨b, o, none⟩ : Addr).add j = ⟨b, o + j, none⟩ := by unfold Addr.add; split <;> simp_all
  rw [List.getElem?_take] at hu
  split at hu
  · obtain ⟨hj, hu⟩ := List.getElem?_eq_some_iff.1 hu
    obtain ⟨b', o', hA, _, hc⟩ := h.at_ (by omega)
    injection hA with hA
    injection hA with h1 h2
    subst h1 h2
    rw [hadd, hc j hj, hu]
  · cases hu
set_option maxRecDepth 100000 in
set_option maxHeartbeats 4000000 in
theorem through_c (A B : Option Addr) (c d : Nat) (g : GraphD) (s : List Bool) (v : Nat) (w : World) (hh : RowsAt w A g) (hs : Holds w B (s.map Bo)) (hg : validG g = true) (hsl : s.length = g.length) (hv : v < g.length) :
    Calls Try.prog 78 #[.slice A g.length c, .slice B s.length d, .int .i64 v] w fun e w' => ∃ u, e = .returned u ∧ w'.ownsRow w.heap.size 3 1 u (thrF g s v).length ((thrF g s v).map Iv) ∧ Below w.heap.size w w' := by
  have hvs : v < s.length := by omega
  obtain ⟨bs, os, rfl, hsc⟩ := hs.bo hvs
  have hat : atB s v = s[v] := by unfold atB; rw [List.getD_eq_getElem?_getD, List.getElem?_eq_getElem hvs]; rfl
  have CD := Lib.hid (dist_c A (some ⟨bs, os, none⟩) c d g s v w hh hs hg hsl hv)
  have CF := Lib.hid (fun W a (hW : Below w.heap.size w W) ha => first_c A (some ⟨bs, os, none⟩) c d g s a v W (hh.keep hW) (hs.keep hW) hg hsl ha hv)
  have HBK := Lib.hid (bestK_ok (dist := distF g s v) hg hv)
  have HRow := Lib.hid (rowOk_row hg hv)
  have HDL := Lib.hid (distF_length g s v)
  have HTrue : Hid (atB s v = true → thrF g s v = []) := Lib.hid (fun h => by unfold thrF; rw [if_pos h])
  have HT : Hid (atB s v = false → thrF g s v = if bestK (rowG g v) (distF g s v) (rowG g v).length < 0 then [] else (v : Int) :: (firstF g s (bestK (rowG g v) (distF g s v) (rowG g v).length).toNat v).dropLast) := Lib.hid (fun h => by unfold thrF; rw [h]; rfl)
  have HFd : Hid (∀ a, firstF g s a v = if (distF g s v).getD a (-1) < 0 then [] else pathF (hopsL g (distF g s v)) ((distF g s v).getD a (-1)).toNat a) := Lib.hid (fun a => rfl)
  have hFsh := fun a => firstF_short (s := s) (a := a) hg hv
  have HFS := Lib.hid hFsh
  have HH := Lib.hid hh
  have HR24 := Lib.hid (validG_short hg)
  clear hh hs hg hsl hFsh
  rcases hsv : s[v] with _ | _
  · rw [hsv] at hat hsc
    replace HT := Lib.hid (HT.out hat)
    clear HTrue hat
    generalize thrF g s v = res at *
    generalize distF g s v = dist at *
    go_enter Try.func78, Try.ntmps78
    go_wp2_with fail
    refine CD.out.mono ?_
    rintro e w2 ⟨vd, rfl, ownD, hb2⟩
    obtain ⟨AD, cD, rfl, hD⟩ := own_is ownD
    have HD := Lib.hid hD
    have HB2 := Lib.hid hb2
    obtain ⟨bg, og, A1, c1, rfl, e1, h1⟩ := (HH.out.keep HB2.out).one hv
    have hrow : rowG g v = g[v] := rowG_at hv
    have hrl24 := HR24.out _ (List.getElem_mem hv)
    rw [hrow] at HBK HRow HT
    have H1 := Lib.hid h1
    clear CD ownD hD hb2 hsc hsv h1 hrow
    generalize g[v] = r at *
    go_wp2
    go_loopw [8, 9] (fun u i wr => ∃ (k : Nat) (z : Int), i = .int .i64 k ∧ k ≤ r.length ∧ u = .int .i64 z ∧ Hid (z = bestK r dist k) ∧ Hid (∃ n, wr = w2.drewN n)) (fun _ i _ => r.length - (intOf i).toNat)
    case atStart => exact ⟨0, -1, rfl, Nat.zero_le _, rfl, Lib.hid rfl, Lib.hid ⟨0, rfl⟩⟩
    case round =>
      obtain ⟨k, z, rfl, hk, rfl, HZ, HW⟩ := hrel
      have hbk := HBK.out k hk
      rw [← HZ.out] at hbk
      obtain ⟨n0, hn0⟩ := HW.out
      subst hn0
      by_cases hlt : k < r.length
      · obtain ⟨br, or_, rfl, e2⟩ := H1.out.iv hlt
        have HS := Lib.hid (bestK_succ (dist := dist) hlt)
        rw [← HZ.out] at HS
        obtain ⟨x0, x1, x2⟩ := HRow.out r[k] (List.getElem_mem hlt)
        generalize r[k] = x at *
        obtain ⟨y, rfl⟩ := Int.eq_ofNat_of_zero_le x0
        have hyn : y < g.length := by omega
        have hyd : y < dist.length := by have := HDL.out; omega
        obtain ⟨bd, od, rfl, ed⟩ := HD.out.iv hyd
        rw [atI_nat hyd] at HS
        clear x0 x1 x2 HZ
        by_cases hd0 : 0 ≤ dist[y]
        · have hdd : decide (0 ≤ dist[y]) = true := by simpa using hd0
          rcases hbk with rfl | ⟨hz0, hz1, hz2⟩
          · have HS2 : Hid ((y : Int) = bestK r dist (k + 1)) := Lib.hid (by rw [HS.out, if_pos ⟨hd0, .inl (by omega)⟩])
            clear hd0 HS
            generalize dist[y] = dy at *
            go_wp2
            go_quiet (fail)
            go_wp2
            go_roundw
            case rel => exact ⟨k + 1, y, by go_num, by omega, rfl, HS2, Lib.hid ⟨_, rfl⟩⟩
            case measure => simp [intOf]; omega
          · obtain ⟨b, rfl⟩ := Int.eq_ofNat_of_zero_le hz0
            have hbn : b < g.length := by omega
            have hbd : b < dist.length := by have := HDL.out; omega
            obtain ⟨bd2, od2, hBeq, eb⟩ := HD.out.iv hbd
            injection hBeq with hBeq
            injection hBeq with hB1 hB2
            subst hB1 hB2
            rw [atI_nat hbd] at HS
            have hbneg : decide ((b : Int) < 0) = false := by simp
            clear hz0 hz1 hz2
            by_cases hlt2 : dist[y] < dist[b]
            · have HS2 : Hid ((y : Int) = bestK r dist (k + 1)) := Lib.hid (by rw [HS.out, if_pos ⟨hd0, .inr hlt2⟩])
              have hdl : decide (dist[y] < dist[b]) = true := by simpa using hlt2
              clear hd0 HS hlt2
              generalize dist[y] = dy at *
              generalize dist[b] = db at *
              go_wp2
              go_quiet (fail)
              go_wp2
              go_roundw
              case rel => exact ⟨k + 1, y, by go_num, by omega, rfl, HS2, Lib.hid ⟨_, rfl⟩⟩
              case measure => simp [intOf]; omega
            · have HS2 : Hid ((b : Int) = bestK r dist (k + 1)) := Lib.hid (by rw [HS.out, if_neg]; rintro ⟨_, h | h⟩ <;> omega)
              have hdl : decide (dist[y] < dist[b]) = false := by simpa using hlt2
              clear hd0 HS hlt2
              generalize dist[y] = dy at *
              generalize dist[b] = db at *
              go_wp2
              go_quiet (fail)
              go_wp2
              go_roundw
              case rel => exact ⟨k + 1, b, by go_num, by omega, rfl, HS2, Lib.hid ⟨_, rfl⟩⟩
              case measure => simp [intOf]; omega
        · have hdd : decide (0 ≤ dist[y]) = false := by simpa using hd0
          have HS2 : Hid (z = bestK r dist (k + 1)) := Lib.hid (by rw [HS.out, if_neg]; rintro ⟨h, _⟩; omega)
          clear hd0 HS hbk
          generalize dist[y] = dy at *
          go_wp2
          go_quiet (fail)
          go_wp2
          go_roundw
          case rel => exact ⟨k + 1, z, by go_num, by omega, rfl, HS2, Lib.hid ⟨_, rfl⟩⟩
          case measure => simp [intOf]; omega
      · obtain rfl : k = r.length := by omega
        rw [← HZ.out] at HT
        have HBd := Lib.hid (below_drewN HB2.out n0)
        rcases hbk with rfl | ⟨hz0, hz1, hz2⟩
        · have HR : Hid (res = []) := Lib.hid (by rw [HT.out]; rfl)
          clear HT HZ
          go_wp2
          go_ret
          exact ⟨_, rfl, by rw [HR.out]; exact World.ownsRow_nil _ _ _ _, HBd.out⟩
        · obtain ⟨b, rfl⟩ := Int.eq_ofNat_of_zero_le hz0
          have hbn : b < g.length := by omega
          have hbd : b < dist.length := by have := HDL.out; omega
          rw [atI_nat hbd] at hz2
          have hneg : decide ((b : Int) < 0) = false := by simp
          have HR : Hid (res = (v : Int) :: (firstF g s b v).dropLast) := Lib.hid (by rw [HT.out, if_neg (by omega)]; rfl)
          have hpl : 0 < (firstF g s b v).length := by
            rw [HFd.out b, List.getD_eq_getElem?_getD, List.getElem?_eq_getElem hbd, if_neg (by simpa using hz2), pathF_length]
            omega
          have hpl2 := HFS.out b
          have HC := Lib.hid (CF.out (w2.drewN n0) b HBd.out hbn)
          clear HT HZ CF hz0 hz1 hz2 HFS HFd
          generalize firstF g s b v = p at *
          obtain ⟨m, hm⟩ : ∃ m, p.length = m + 1 := ⟨p.length - 1, by omega⟩
          rw [hm] at HC
          go_wp2_with fail
          refine HC.out.mono ?_
          rintro e w3 ⟨vp, rfl, ownP, hb3⟩
          obtain ⟨gp, cp, rfl, hgp, hcp⟩ := own_at ownP (by omega)
          have hP := ownsRow_holds ownP
          have HP := Lib.hid hP
          have HB3 := Lib.hid (HBd.out.trans (hb3.mono HBd.out.size))
          clear HC ownP hb3 hP hpl
          have own4 : (w3.alloc (.cells #[.int .i64 v] 3)).ownsRow w3.heap.size 3 1 (.slice (some ⟨w3.heap.size, 0, none⟩) 1 1) 1 [Iv v] := own_one (heap_alloc_new w3 _) (Nat.le_refl _)
          have HO4 := Lib.hid own4
          have HB4 : Hid (Below w3.heap.size w3 (w3.alloc (.cells #[.int .i64 v] 3))) := Lib.hid ((Below.refl _ _).alloc (Nat.le_refl _) _)
          have HDr : Hid (p.dropLast.length = m ∧ (p.map Iv).take m = p.dropLast.map Iv) := Lib.hid ⟨by simp [hm], by rw [← List.map_take, List.dropLast_eq_take, hm]; rfl⟩
          have hm24 : m ≤ 24 := by omega
          clear own4
          obtain ⟨i0, hi, hz0, hz1, hz2⟩ := info_parts Try.infoIntG
          go_wp2_with (at_builtin; refine wpList_append_own _ rfl _ _ 25 rfl w3.heap.size 3 i0 (.int .i64 0) 1 8 Try.underlying25 hi hz0 hz1 hz2 rfl (by decide) _ _ _ rfl HO4.out ⟨gp, 0, none⟩ m cp ((p.map Iv).take m) rfl ?c1 ?c2 ?c3 ?c4 ?c5 ?c6 ?_)
          case c1 => simp; omega
          case c2 => exact (HP.out.keep HB4.out).news
          case c3 => intro u hu; obtain ⟨q, _, rfl⟩ := List.mem_map.1 (List.mem_of_mem_take hu); rfl
          case c4 => unfold maxLen; omega
          case c5 => omega
          case c6 => simp
          intro v8 w8 own8 hg8 _
          have hb8 : Below w3.heap.size w3 w8 := HB4.out.grown hg8 (by simp) (fun k hk => own_base HO4.out k hk)
          have HO8 : Hid (w8.ownsRow w3.heap.size 3 1 v8 res.length (res.map Iv)) := Lib.hid (by
            rw [HR.out]
            rw [HDr.out.2] at own8
            have e : ((v : Int) :: p.dropLast).length = 1 + m := by rw [List.length_cons, HDr.out.1]; omega
            rw [e]
            exact own8)
          clear own8 hg8
          go_wp2
          go_ret
          exact ⟨_, rfl, ownsRow_base HO8.out HB3.out.size, HB3.out.trans (hb8.mono HB3.out.size)⟩
  · rw [hsv] at hat hsc
    have HR := Lib.hid (HTrue.out hat)
    clear HT HTrue hat CD CF
    go_enter Try.func78, Try.ntmps78
    go_wp2
    go_ret
    exact ⟨_, rfl, by rw [HR.out]; exact World.ownsRow_nil _ _ _ _, Below.refl _ _⟩
end Go.Proofs.Ytmdnkpiihhaoeaa
