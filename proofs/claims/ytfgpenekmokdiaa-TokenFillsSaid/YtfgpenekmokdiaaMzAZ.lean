/- Joined texts. -/
import Derived.Test.YtfgpenekmokdiaaMzAE
import Derived.Test.YtfgpenekmokdiaaMzAY
import Derived.Test.YtfgpenekmokdiaaMzAV
import Derived.Test.YtfgpenekmokdiaaMzAG
import Derived.Test.YtfgpenekmokdiaaMzAK
import Derived.Test.YtfgpenekmokdiaaMzAW
namespace Go.Proofs.Ytfgpenekmokdiaa
open Go Go.RowKit Fl

theorem own_to {w w' : World} {base n : Nat} {e : TypeId} {v : Value} {xs : List Value} (h : w.ownsRow base e 1 v n xs) (hs : ∀ k, v.ownBlock = some k → k < w.heap.size → w'.heap[k]? = w.heap[k]?) : w'.ownsRow base e 1 v n xs := by
  obtain ⟨h1, hr⟩ := h
  refine ⟨h1, ?_⟩
  rcases hr with hr | ⟨g, cap, cur, hv, hgb, hh, hrest⟩
  · exact .inl hr
  · exact .inr ⟨g, cap, cur, hv, hgb, (hs g (by rw [hv]; rfl) (block_lt hh)).trans hh, hrest⟩
theorem own_type {w : World} {base n k : Nat} {e : TypeId} {v : Value} {xs : List Value} (h : w.ownsRow base e 1 v n xs) (hk : v.ownBlock = some k) : ∃ cs, w.heap[k]? = some (.cells cs e (0, 0)) := by
  obtain ⟨_, hr⟩ := h
  rcases hr with ⟨rfl, _⟩ | ⟨g, cap, cur, rfl, _, hh, _⟩
  · simp [Value.ownBlock] at hk
  · simp [Value.ownBlock] at hk
    subst hk
    exact ⟨cur, hh⟩
/-- A new row is put into the place of another one. -/
theorem RowsOwn.place {w w' : World} {base q n cap i : Nat} {g : GraphD} {u : Value} {r : List Int} (h : RowsOwn w base (.slice (some ⟨q, 0, none⟩) n cap) g) (hn : n = g.length) (hw : ∀ k, k < w.heap.size → w'.heap[k]? = (w.setCell ⟨q, i, none⟩ u).heap[k]?) (hu : w'.ownsRow base 3 1 u r.length (r.map Iv)) : RowsOwn w' base (.slice (some ⟨q, 0, none⟩) n cap) (g.set i r) := by
  subst hn
  obtain ⟨vs, h1, h2, h3⟩ := h
  obtain ⟨cs, hq⟩ := own_type h2 (k := q) rfl
  have h4 := own_put (i := i) (v := u) h2
  have hqs : (w.setCell ⟨q, i, none⟩ u).heap.size = w.heap.size := by simp [World.setCell]
  refine ⟨vs.set i u, by simpa using h1, ?_, fun j u' r' hj hr' => ?_⟩
  · rw [List.length_set]
    exact own_to h4 fun k _ hk => hw k (by omega)
  · rw [List.getElem?_set] at hj hr'
    by_cases e : i = j
    · subst e
      rw [if_pos rfl] at hj hr'
      split at hj
      · split at hr'
        · injection hj with hj
          injection hr' with hr'
          subst hj hr'
          exact hu
        · cases hr'
      · cases hj
    · rw [if_neg e] at hj hr'
      have h5 := h3 j u' r' hj hr'
      refine own_to h5 fun k hk hlt => ?_
      rw [hw k hlt, Below.heap_setCell _ _ _ _ (fun e2 => ?_)]
      obtain ⟨cs2, h6⟩ := own_type h5 hk
      simp only at e2
      rw [e2, hq] at h6
      injection h6 with h6
      injection h6 with _ h7
      exact absurd h7 (by decide)
end Go.Proofs.Ytfgpenekmokdiaa
namespace Go.Proofs.Ytfgpenekmokdiaa
open Go Go.RowKit Fl

def allIn (n : Nat) (vs : List Int) : Bool := vs.all fun v => decide (0 ≤ v ∧ v < n)
def opE (g : GraphD) (m : Nat) (vs : List Int) : Int := if chkG g m = 0 then (if allIn g.length vs then 0 else 19) else chkG g m
def opL (g : GraphD) (s : List Bool) (vs : List Int) : GraphD := if opE g s.length vs = 0 then woG g s else []
theorem allIn_step {n : Nat} {vs : List Int} {k : Nat} (hk : k < vs.length) : allIn n (vs.drop k) = (decide (0 ≤ vs[k] ∧ vs[k] < n) && allIn n (vs.drop (k + 1))) := by
  unfold allIn
  rw [List.drop_eq_getElem_cons hk, List.all_cons]
set_option maxRecDepth 100000 in
set_option maxHeartbeats 4000000 in
theorem openGraph_c (A B V : Option Addr) (c d cv : Nat) (g : GraphD) (s : List Bool) (vs : List Int) (w : World) (hh : RowsAt w A g) (hs : Holds w B (s.map Bo)) (hv : Holds w V (vs.map Iv)) (hz : Sized g) (hvl : vs.length ≤ 24) :
    Calls Try.prog 80 #[.slice A g.length c, .slice B s.length d, .slice V vs.length cv] w (WoPost w (opL g s vs) (opE g s.length vs)) := by
  have CC := Lib.hid (devWithout_c A B c d g s w hh hs hz.1 hz.2)
  by_cases h0 : chkG g s.length = 0
  · have HW : Hid (woL g s = woG g s) := Lib.hid (by unfold woL; rw [if_pos h0])
    have hval : validG g = true := by
      rcases chkG_cases g s.length with h | h | h
      · exact h.2.1
      · omega
      · omega
    have hl24 := validG_len hval
    have HWL := Lib.hid (woG_length g s)
    have HE0 : Hid (allIn g.length vs = true → opE g s.length vs = 0 ∧ opL g s vs = woG g s) := Lib.hid (fun h => by
      have h1 : opE g s.length vs = 0 := by unfold opE; rw [if_pos h0, h]; rfl
      exact ⟨h1, by unfold opL; rw [if_pos h1]⟩)
    have HE1 : Hid (allIn g.length vs = false → opE g s.length vs = 19 ∧ opL g s vs = []) := Lib.hid (fun h => by
      have h1 : opE g s.length vs = 19 := by unfold opE; rw [if_pos h0, h]; rfl
      exact ⟨h1, by unfold opL; rw [if_neg (by rw [h1]; decide)]⟩)
    have HV := Lib.hid hv
    have HSt : Hid (∀ (k : Nat) (hk : k < vs.length), allIn g.length (vs.drop k) = (decide (0 ≤ vs[k] ∧ vs[k] < g.length) && allIn g.length (vs.drop (k + 1)))) := Lib.hid (fun k hk => allIn_step hk)
    have HEnd : Hid (allIn g.length (vs.drop vs.length) = true) := Lib.hid (by simp [allIn])
    have HS0 : Hid (allIn g.length (vs.drop 0) = allIn g.length vs) := Lib.hid (by rw [List.drop_zero])
    rw [h0] at CC
    clear hh hs hz h0 hval hv
    generalize opE g s.length vs = oE at *
    generalize opL g s vs = oL at *
    generalize allIn g.length vs = al at *
    go_enter Try.func80, Try.ntmps80
    go_wp2_with fail
    refine CC.out.mono ?_
    rintro e w1 ⟨u, rfl, own1, hb1⟩
    rw [HW.out] at own1
    obtain ⟨A1, c1, rfl, _⟩ := own1.at_
    rw [HWL.out] at own1 ⊢
    have HO := Lib.hid own1
    have HB := Lib.hid hb1
    have HV1 := Lib.hid (HV.out.keep hb1)
    clear own1 hb1 CC HW HV
    go_wp2
    go_loopw [11, 23] (fun _ v wr => ∃ (k : Nat), v = .int .i64 k ∧ k ≤ vs.length ∧ Hid (allIn g.length (vs.drop k) = al) ∧ w1 = wr) (fun _ v _ => vs.length - (intOf v).toNat)
    case atStart => exact ⟨0, rfl, Nat.zero_le _, HS0, rfl⟩
    case round =>
      clear HS0
      obtain ⟨k, rfl, hk, HA, rfl⟩ := hrel
      by_cases hlt : k < vs.length
      · obtain ⟨bv, ov, rfl, ev⟩ := HV1.out.iv hlt
        have HSk := Lib.hid (HSt.out k hlt)
        generalize vs[k] = x at *
        by_cases hin : 0 ≤ x ∧ x < g.length
        · have hd1 : decide (x < 0) = false := by simp; omega
          have hd2 : decide ((g.length : Int) ≤ x) = false := by simp; omega
          have HA2 : Hid (allIn g.length (vs.drop (k + 1)) = al) := Lib.hid (by rw [← HA.out, HSk.out, decide_eq_true hin, Bool.true_and])
          clear hin HSk
          go_wp2
          go_roundw
          case rel => exact ⟨k + 1, by go_num, by omega, HA2, trivial⟩
          case measure => simp [intOf]; omega
        · have hal : al = false := by rw [← HA.out, HSk.out, decide_eq_false hin, Bool.false_and]
          obtain ⟨he1, he2⟩ := HE1.out hal
          have hcase : decide (x < 0) = true ∨ decide (x < 0) = false ∧ decide ((g.length : Int) ≤ x) = true := by simp only [decide_eq_true_eq, decide_eq_false_iff_not]; omega
          subst he1 he2
          clear hin HSk HA hal HE0 HE1 HSt HEnd
          rcases hcase with h1 | ⟨h1, h2⟩
          all_goals
            go_wp2
            go_ret2
            exact ⟨_, rfl, rowsOwn_nil _ _, HB.out⟩
      · obtain rfl : k = vs.length := by omega
        obtain ⟨he1, he2⟩ := HE0.out (by rw [← HA.out, HEnd.out])
        have HX : Hid (oL = woG g s) := Lib.hid he2
        subst he1
        clear HE0 HE1 HSt HEnd HA he2
        go_wp2
        go_ret2
        exact ⟨_, rfl, by rw [HX.out]; exact HO.out, HB.out⟩
  · have he : opE g s.length vs = chkG g s.length := by unfold opE; rw [if_neg h0]
    have HL : Hid (opL g s vs = []) := Lib.hid (by unfold opL; rw [if_neg (by rw [he]; exact h0)])
    have hcase : chkG g s.length = 19 ∨ chkG g s.length = 20 := by
      rcases chkG_cases g s.length with h | h | h
      · exact absurd h.1 h0
      · exact .inl h
      · exact .inr h
    rw [he]
    clear hh hs hz he h0 hv
    generalize opL g s vs = oL at *
    rcases hcase with h | h
    all_goals
      rw [h] at CC ⊢
      clear h
      go_enter Try.func80, Try.ntmps80
      go_wp2_with fail
      refine CC.out.mono ?_
      rintro e w1 ⟨u, rfl, own1, hb1⟩
      obtain ⟨A1, c1, rfl, _⟩ := own1.at_
      have HB1 := Lib.hid hb1
      clear own1 hb1 CC
      go_wp2
      go_ret2
      exact ⟨_, rfl, by rw [HL.out]; exact rowsOwn_nil _ _, HB1.out⟩
theorem opE_two (g : GraphD) (m : Nat) (a b : Int) : opE g m [a, b] = twoE g m a b := by
  unfold opE twoE allIn
  simp
theorem opE_one (g : GraphD) (m : Nat) (a : Int) : opE g m [a] = twoE g m a a := by
  unfold opE twoE allIn
  simp
theorem opE_none (g : GraphD) (m : Nat) : opE g m [] = chkG g m := by
  unfold opE allIn
  split
  · rename_i h; simp [h]
  · rfl
end Go.Proofs.Ytfgpenekmokdiaa
namespace Go.Proofs.Ytfgpenekmokdiaa
open Go Go.RowKit Fl

end Go.Proofs.Ytfgpenekmokdiaa
namespace Go.Proofs.Ytfgpenekmokdiaa
open Go Go.RowKit Fl

theorem hopsL_lt {g : GraphD} {dist : List Int} {v : Nat} (hv : v < g.length) : v < (hopsL g dist).length := by simp [hopsL]; exact hv
theorem hopsL_get {g : GraphD} {dist : List Int} {v : Nat} (hv : v < g.length) : (hopsL g dist)[v]'(hopsL_lt hv) = hopV g dist v := by
  have h := hopsL_at (dist := dist) hv
  rw [List.getElem?_eq_getElem (hopsL_lt hv)] at h
  injection h
set_option maxRecDepth 100000 in
set_option maxHeartbeats 4000000 in
theorem devPath_c (A B : Option Addr) (c d : Nat) (g : GraphD) (s : List Bool) (a0 goal0 : Int) (w : World) (hh : RowsAt w A g) (hs : Holds w B (s.map Bo)) (hz : Sized g) :
    Calls Try.prog 70 #[.slice A g.length c, .slice B s.length d, .int .i64 a0, .int .i64 goal0] w (ListPost w (patL g s a0 goal0) (twoE g s.length a0 goal0)) := by
  have hba := below_alloc w (.cells #[.int .i64 a0, .int .i64 goal0] 3)
  have CC := openGraph_c A B (some ⟨w.heap.size, 0, none⟩) c d 2 g s [a0, goal0] (w.alloc (.cells #[.int .i64 a0, .int .i64 goal0] 3)) (hh.keep hba) (hs.keep hba) (lit_holds _ _ #[.int .i64 a0, .int .i64 goal0] _ _ rfl rfl) hz (by simp)
  rw [opE_two, show ([a0, goal0] : List Int).length = 2 from rfl] at CC
  have CC := Lib.hid CC
  have HBA := Lib.hid hba
  rcases twoE_cases g s.length a0 goal0 with h0 | h0 | h0
  · have hz2 := twoE_zero h0
    obtain ⟨hv, hsl, ha0, hb0⟩ := hz2
    obtain ⟨a, rfl⟩ := Int.eq_ofNat_of_zero_le ha0.1
    obtain ⟨goal, rfl⟩ := Int.eq_ofNat_of_zero_le hb0.1
    have ha : a < g.length := by omega
    have hgoal : goal < g.length := by omega
    have hl24 := validG_len hv
    have HL : Hid (patL g s (a : Int) (goal : Int) = firstF g s a goal) := Lib.hid (by unfold patL; rw [if_pos h0, Int.toNat_natCast, Int.toNat_natCast])
    have HO : Hid (opL g s [(a : Int), (goal : Int)] = woG g s) := Lib.hid (by unfold opL; rw [if_pos (by rw [opE_two]; exact h0)])
    have hwl := woG_length g s
    have CH := Lib.hid (fun (A1 : Option Addr) (c1 : Nat) (w1 : World) (h1 : RowsAt w1 A1 (woG g s)) (h2 : Below w.heap.size w w1) => hopsTo_c A1 B c1 d g s goal w1 h1 (hs.keep h2) hv hsl hgoal)
    have HG := Lib.hid hv
    have HSht := Lib.hid (fun h : atB s goal = true => distF_shut (g := g) h)
    have HOpen := Lib.hid (distF_open (g := g) (s := s) hgoal)
    have HInv := Lib.hid (fun h : atB s goal = false => distF_inv hv hgoal h)
    have HDL := Lib.hid (distF_length g s goal)
    have HF : Hid (firstF g s a goal = if (distF g s goal).getD a (-1) < 0 then [] else pathF (hopsL g (distF g s goal)) ((distF g s goal).getD a (-1)).toNat a) := Lib.hid rfl
    have has : a < s.length := by omega
    have HAT := Lib.hid (atB_at has)
    have HS := Lib.hid hs
    rw [h0] at CC ⊢
    clear hh hs hz h0 hv ha0 hb0 hba hsl
    generalize firstF g s a goal = res at *
    generalize distF g s goal = dist at *
    go_enter Try.func70, Try.ntmps70
    go_wp2_with fail
    refine CC.out.mono ?_
    rintro e w1 ⟨u, rfl, own1, hb1⟩
    rw [HO.out] at own1
    obtain ⟨A1, c1, rfl, r1⟩ := own1.at_
    rw [hwl]
    have HB1 := Lib.hid (HBA.out.trans (hb1.mono HBA.out.size))
    have R1 := Lib.hid (CH.out A1 c1 w1 r1 HB1.out)
    clear own1 r1 hb1 CC CH HBA HO hwl
    go_wp2_with fail
    refine R1.out.mono ?_
    rintro e w2 ⟨v, rfl, own2, hb2⟩
    obtain ⟨AH, cH, rfl, hH⟩ := own_is own2
    have HH := Lib.hid hH
    have HB3 := Lib.hid (HB1.out.trans (hb2.mono HB1.out.size))
    clear own2 hb2 R1 HB1 hH
    obtain ⟨bs, os, rfl, esa⟩ := HS.out.bo has
    have esr : w2.cell? ⟨bs, os + a, none⟩ = some (.bool s[a]) := (HB3.out.cell (p := ⟨bs, os + a, none⟩) (World.block_lt_of_cell? _ _ esa)).trans esa
    have HHL := Lib.hid (fun (v : Nat) (hv : v < g.length) => hopsL_lt (dist := dist) hv)
    have HHV := Lib.hid (fun (v : Nat) (hv : v < g.length) => hopsL_get (dist := dist) hv)
    clear esa HS
    have hw2 : w2.heap.size = w2.heap.size := rfl
    by_cases hneg : dist.getD a (-1) < 0
    · rw [if_pos hneg] at HF
      have HNeg := Lib.hid (hopV_neg (g := g) (dist := dist) (v := a) (by omega))
      have HN := Lib.hid hneg
      have HGo : Hid (s[a] = false → ((a : Int) != (goal : Int)) = true) := Lib.hid (fun h => by
        rw [bne_iff_ne]
        intro e
        obtain rfl : a = goal := by omega
        have := (HInv.out (by rw [HAT.out]; exact h)).goal a ha
        have := this.2 rfl
        have := HN.out
        omega)
      clear hneg hw2
      generalize s[a] = sa at *
      rcases sa with _ | _
      · have hne := HGo.out rfl
        obtain ⟨bh, oh, rfl, eh⟩ := HH.out.iv (HHL.out a ha)
        rw [HHV.out a ha, HNeg.out] at eh
        clear HGo
        go_wp2
        go_ret2
        exact ⟨_, rfl, by rw [HL.out, HF.out]; exact World.ownsRow_nil _ _ _ _, HB3.out⟩
      · clear HGo
        go_wp2
        go_ret2
        exact ⟨_, rfl, by rw [HL.out, HF.out]; exact World.ownsRow_nil _ _ _ _, HB3.out⟩
    · rw [if_neg hneg] at HF
      have hsa : s[a] = false := by rw [← HAT.out]; exact HOpen.out a (by show 0 ≤ dist.getD a (-1); omega)
      rw [hsa] at esr
      have hso : atB s goal = false := by
        rcases h : atB s goal with _ | _
        · rfl
        · exfalso
          apply hneg
          rw [HSht.out h, List.getD_eq_getElem?_getD, List.getElem?_replicate]
          split <;> simp
      have HI := Lib.hid (HInv.out hso)
      have HLow := Lib.hid (HI.out.low a)
      obtain ⟨f0, hf0⟩ := Int.eq_ofNat_of_zero_le (show 0 ≤ dist.getD a (-1) by omega)
      have hf24 : f0 ≤ 24 := by have := HLow.out; omega
      have HF0 : Hid (dist.getD a (-1) = (f0 : Int)) := Lib.hid hf0
      rw [hf0, Int.toNat_natCast] at HF
      obtain ⟨bh, oh, rfl, eh⟩ := HH.out.iv (HHL.out a ha)
      rw [HHV.out a ha] at eh
      have hcase : ((a : Int) != (goal : Int)) = false ∨ ((a : Int) != (goal : Int)) = true ∧ decide (hopV g dist a < 0) = false := by
        by_cases hag : a = goal
        · left; simp [hag]
        · right
          refine ⟨by rw [bne_iff_ne]; omega, ?_⟩
          have hpos : 0 < dist.getD a (-1) := by
            have h1 := HI.out.goal a ha
            rcases Int.lt_or_le 0 (dist.getD a (-1)) with h | h
            · exact h
            · exact absurd (h1.1 (by omega)) hag
          obtain ⟨y, hy1, _⟩ := hop_near HI.out HG.out ha hpos
          rw [hy1]
          simp
      have HHc := Lib.hid hcase
      have HP4 : Hid ([(a : Int)] ++ (pathF (hopsL g dist) f0 a).tail = res) := Lib.hid (by rw [HF.out]; cases f0 <;> rfl)
      clear hneg hf0 HLow hso HInv HSht HOpen HF hsa hcase hw2
      generalize hopV g dist a = hva at eh HHc
      rcases HHc.out with hc | ⟨hc, hd⟩
      all_goals
        clear HHc
        go_wp2
        clear eh esr
        have own4 : (w2.alloc (.cells #[.int .i64 a] 3)).ownsRow w2.heap.size 3 1 (.slice (some ⟨w2.heap.size, 0, none⟩) 1 1) ([(a : Int)]).length (([(a : Int)]).map Iv) := own_one (heap_alloc_new w2 _) (Nat.le_refl _)
        have hb4 : Below w2.heap.size w2 (w2.alloc (.cells #[.int .i64 a] 3)) := (Below.refl _ _).alloc (Nat.le_refl _) _
        have HO4 := Lib.hid own4
        clear own4
        go_loopw [2, 13] (fun u v wr => ∃ (cur f : Nat) (out : List Int), u = .int .i64 cur ∧ cur < g.length ∧ Hid (dist.getD cur (-1) = (f : Int)) ∧ f ≤ 24 ∧ out.length ≤ 25 - f ∧ Hid (out ++ (pathF (hopsL g dist) f cur).tail = res) ∧ Hid (wr.ownsRow w2.heap.size 3 1 v out.length (out.map Iv)) ∧ Below w2.heap.size w2 wr) (fun u _ _ => (dist.getD (intOf u).toNat (-1)).toNat)
        case atStart => exact ⟨a, f0, _, rfl, ha, HF0, hf24, by simp; omega, HP4, HO4, hb4⟩
        case round =>
          clear HO4 HP4 hb4 HF0 hf24
          obtain ⟨cur, f, out, rfl, hcur, HFc, hf24, hol, HP, HO, hb⟩ := hrel
          by_cases hcg : cur = goal
          · have hne : ((cur : Int) != (goal : Int)) = false := by simp [hcg]
            have hf0 : f = 0 := by
              have h := (HI.out.goal cur hcur).2 hcg
              rw [HFc.out] at h
              omega
            have HR : Hid (out = res) := Lib.hid (by
              have h := HP.out
              rw [hf0] at h
              simpa [pathF] using h)
            clear HP
            go_wp2
            go_ret2
            exact ⟨_, rfl, by rw [HL.out, ← HR.out]; exact ownsRow_base HO.out HB3.out.size, HB3.out.trans (hb.mono HB3.out.size)⟩
          · have hne : ((cur : Int) != (goal : Int)) = true := by rw [bne_iff_ne]; omega
            have hpos : 0 < dist.getD cur (-1) := by
              rw [HFc.out]
              rcases Nat.eq_zero_or_pos f with h | h
              · exfalso
                apply hcg
                apply (HI.out.goal cur hcur).1
                rw [HFc.out, h]; rfl
              · omega
            obtain ⟨y, hy1, hy2, hy3⟩ := hop_near HI.out HG.out hcur hpos
            rw [HFc.out] at hpos hy3
            obtain ⟨f', rfl⟩ : ∃ f', f = f' + 1 := ⟨f - 1, by omega⟩
            have HFy : Hid (dist.getD y (-1) = (f' : Int)) := Lib.hid (by rw [hy3]; omega)
            have HP2 : Hid ((out ++ [(y : Int)]) ++ (pathF (hopsL g dist) f' y).tail = res) := Lib.hid (by
              rw [← HP.out, pathF_tail (y := (y : Int)) (by rw [hopsL_atI hcur, hy1])]
              simp)
            obtain ⟨bh2, oh2, hBeq, eh⟩ := HH.out.iv (HHL.out cur hcur)
            injection hBeq with hBeq
            injection hBeq with hB1 hB2
            subst hB1 hB2
            rw [HHV.out cur hcur, hy1] at eh
            have hbh : bh < w2.heap.size := World.block_lt_of_cell? _ _ eh
            have ehr : wr.cell? ⟨bh, oh + cur, none⟩ = some (.int .i64 y) := (hb.cell (p := ⟨bh, oh + cur, none⟩) hbh).trans eh
            have base := own_base HO.out
            have hsz := hb.size
            have HMs : Hid (dist.getD cur (-1) = ((f' + 1 : Nat) : Int)) := Lib.hid HFc.out
            clear hcg hpos hy1 hy3 eh HP HFc
            go_wp2_with (at_builtin; refine app_int _ rfl _ _ rfl w2.heap.size _ _ _ rfl (HO.out.alloc _) wr.heap.size y rfl (by simp [go_sem]) (by omega) (by simp; omega) ?_)
            intro v8 w8 own8 hg8
            have hb8 : Below w2.heap.size w2 w8 := (hb.alloc hb.size _).grown hg8 (by simp; omega) (fun k hk => base k hk)
            have HO8 : Hid (w8.ownsRow w2.heap.size 3 1 v8 (out ++ [(y : Int)]).length ((out ++ [(y : Int)]).map Iv)) := Lib.hid (by simpa using own8)
            clear own8 hg8 base HO
            go_wp2
            go_roundw
            case rel => exact ⟨y, f', _, rfl, hy2, HFy, by omega, by simp; omega, HP2, HO8, hb8⟩
            case measure => simp only [intOf, Int.toNat_natCast]; rw [HFy.out, HMs.out]; omega
  all_goals
    have HE : Hid (patL g s a0 goal0 = []) := Lib.hid (by unfold patL; rw [if_neg (by rw [h0]; decide)])
    rw [h0] at CC ⊢
    clear hh hs hz h0 hba
    go_enter Try.func70, Try.ntmps70
    go_wp2_with fail
    refine CC.out.mono ?_
    rintro e w1 ⟨u, rfl, own1, hb1⟩
    obtain ⟨A1, c1, rfl, _⟩ := own1.at_
    have HB1 := Lib.hid (HBA.out.trans (hb1.mono HBA.out.size))
    clear own1 hb1 CC HBA
    go_wp2
    go_ret2
    exact ⟨_, rfl, by rw [HE.out]; exact World.ownsRow_nil _ _ _ _, HB1.out⟩
end Go.Proofs.Ytfgpenekmokdiaa
namespace Go.Proofs.Ytfgpenekmokdiaa
open Go Go.RowKit Fl

theorem tab_part (g : GraphD) (s : List Bool) (n k : Nat) : rowsF n (fun i => if i < k + 1 then hopsL g (distF g s i) else []) = (rowsF n (fun i => if i < k then hopsL g (distF g s i) else [])).set k (hopsL g (distF g s k)) := by
  refine (rowsF_set (f' := fun i => if i < k + 1 then hopsL g (distF g s i) else []) (if_pos (Nat.lt_succ_self k)) fun i hi => ?_).symm
  by_cases h : i < k
  · show (if i < k + 1 then _ else _) = if i < k then _ else _
    rw [if_pos h, if_pos (by omega)]
  · show (if i < k + 1 then _ else _) = if i < k then _ else _
    rw [if_neg h, if_neg (by omega)]
theorem tab_all (g : GraphD) (s : List Bool) (n : Nat) : rowsF n (fun i => if i < n then hopsL g (distF g s i) else []) = tabF g s n := by
  unfold rowsF tabF
  refine List.map_congr_left fun i hi => ?_
  rw [if_pos (List.mem_range.1 hi)]
theorem devPath_k : DevPath := fun A B c d g s a goal w hh hs hz => (devPath_c A B c d g s a goal w hh hs hz).mono fun _ _ h => h.res
end Go.Proofs.Ytfgpenekmokdiaa
namespace Go.Proofs.Ytfgpenekmokdiaa
open Go Go.RowKit Fl

theorem srtL_mem (l : List Int) (z : Int) : z ∈ srtL l ↔ z ∈ l := (List.mergeSort_perm l _).mem_iff
theorem srtL_sorted (l : List Int) : (srtL l).Pairwise (· ≤ ·) := by
  have h := List.pairwise_mergeSort (le := fun x y : Int => decide (x ≤ y)) (fun a b c h1 h2 => by simp at h1 h2 ⊢; omega) (fun a b => by simp; omega) l
  exact h.imp (fun h => of_decide_eq_true h)
theorem patT_ok {g : GraphD} {e x : Nat} (hg : validG g = true) (he : e < g.length) (hx : x < g.length) : patL g (opensT g.length) (e : Int) (x : Int) = firstF g (opensT g.length) e x ∧ twoE g (opensT g.length).length (e : Int) (x : Int) = 0 := by
  have h0 : twoE g (opensT g.length).length (e : Int) (x : Int) = 0 := by
    unfold twoE chkG
    rw [hg, opens_len]
    simp
    omega
  refine ⟨?_, h0⟩
  unfold patL
  rw [if_pos h0, Int.toNat_natCast, Int.toNat_natCast]
set_option maxRecDepth 100000 in
set_option maxHeartbeats 4000000 in
theorem shortest_c (A W : Option Addr) (c cw e : Nat) (g : GraphD) (l : List Int) (w : World) (hh : RowsAt w A g) (hW : Holds w W (l.map Iv)) (hg : validG g = true) (he : e < g.length) (hl : l.length ≤ 24) (hr : ∀ x ∈ l, 0 ≤ x ∧ x < g.length) :
    Calls Try.prog 51 #[.slice A g.length c, .int .i64 e, .slice W l.length cw] w fun x w' => ∃ u, x = .returned u ∧ w'.ownsRow w.heap.size 3 1 u (bstK g (opensT g.length) e (srtL l) l.length).length ((bstK g (opensT g.length) e (srtL l) l.length).map Iv) ∧ Below w.heap.size w w' := by
  have HH := Lib.hid hh
  have HW := Lib.hid hW
  have HZ := Lib.hid (Sized.valid hg)
  have HPk := Lib.hid (fun (x : Nat) hx => patT_ok (x := x) hg he hx)
  have HB0 := Lib.hid ((Below.refl w.heap.size w).alloc (Nat.le_refl _) (.cells #[.slice W l.length cw] 23))
  have hc0 : (w.alloc (.cells #[.slice W l.length cw] 23)).cell? ⟨w.heap.size, 0, none⟩ = some (.slice W l.length cw) := by rw [cell_of_row _ _ 0 _ _ _ (heap_alloc_new w _)]; rfl
  have CS := Lib.hid (sorted_c W cw w.heap.size l (w.alloc (.cells #[.slice W l.length cw] 23)) hc0 (hW.keep HB0.out) (by omega))
  have CV := Lib.hid (values_c W l.length cw w)
  have hsl := srtL_length l
  have HR : Hid (∀ x ∈ srtL l, 0 ≤ x ∧ x < g.length) := Lib.hid (fun x hx => hr x ((srtL_mem l x).1 hx))
  have hg24 := validG_len hg
  have CNn := Lib.hid (fun wr => noneShut_c A g.length c wr hg24)
  have HSu : Hid (∀ k, bstK g (opensT g.length) e (srtL l) (k + 1) = if 0 < (firstF g (opensT g.length) e (atI (srtL l) k).toNat).length ∧ ((bstK g (opensT g.length) e (srtL l) k).length = 0 ∨ (firstF g (opensT g.length) e (atI (srtL l) k).toNat).length < (bstK g (opensT g.length) e (srtL l) k).length) then firstF g (opensT g.length) e (atI (srtL l) k).toNat else bstK g (opensT g.length) e (srtL l) k) := Lib.hid (fun k => rfl)
  have HFs := Lib.hid (fun (x : Nat) (hx : x < g.length) => firstF_short (s := opensT g.length) (a := e) hg hx)
  have HBz : Hid (bstK g (opensT g.length) e (srtL l) 0 = []) := Lib.hid rfl
  have hbig : ∀ k, k ≤ l.length → (bstK g (opensT g.length) e (srtL l) k).length ≤ 25 := by
    intro k
    induction k with
    | zero => intro _; rw [HBz.out]; simp
    | succ k ih =>
      intro hk
      rw [HSu.out k]
      split
      · have hkl : k < (srtL l).length := by omega
        rw [Fl.atI_get hkl]
        have := HR.out _ (List.getElem_mem hkl)
        exact HFs.out _ (by omega)
      · exact ih (by omega)
  have HBig := Lib.hid hbig
  clear hh hW hg hr hc0 hbig
  obtain ⟨S, hS⟩ : ∃ S, srtL l = S := ⟨_, rfl⟩
  rw [hS] at CS hsl HR HSu HBz HBig ⊢
  clear hS
  generalize hbs : bstK g (opensT g.length) e S = BS at *
  clear hbs
  go_enter Try.func51, Try.ntmps51
  go_wp2_with fail
  refine CV.out.mono ?_
  rintro x w1 ⟨rfl, rfl⟩
  clear CV
  go_wp2_with fail
  generalize w.alloc (.cells #[.slice W l.length cw] 23) = w1 at *
  refine CS.out.mono ?_
  rintro x w2 ⟨u, rfl, hu, hb2⟩
  obtain ⟨A5, c5, rfl, hS5⟩ := own_is hu
  have HS5 := Lib.hid hS5
  have HB2 := Lib.hid (HB0.out.trans (hb2.mono HB0.out.size))
  clear hu hb2 CS hS5
  have HO0 : Hid (w2.ownsRow w2.heap.size 3 1 (.slice none 0 0) (BS 0).length ((BS 0).map Iv)) := Lib.hid (by rw [HBz.out]; exact World.ownsRow_nil _ _ _ _)
  go_wp2
  go_loopw [7, 16] (fun sv i wr => ∃ k : Nat, i = .int .i64 k ∧ k ≤ l.length ∧ Hid (wr.ownsRow w2.heap.size 3 1 sv (BS k).length ((BS k).map Iv)) ∧ Hid (Below w2.heap.size w2 wr)) (fun _ i _ => l.length - (intOf i).toNat)
  case atStart => exact ⟨0, rfl, Nat.zero_le _, HO0, Lib.hid (Below.refl _ _)⟩
  case round =>
    clear HO0
    obtain ⟨k, rfl, hk, HO, HB⟩ := hrel
    by_cases hlt : k < l.length
    · have hkS : k < S.length := by omega
      obtain ⟨b5, o5, rfl, e5⟩ := (HS5.out.keep HB.out).iv hkS
      have hrg := HR.out _ (List.getElem_mem hkS)
      have HSk := Lib.hid (HSu.out k)
      rw [Fl.atI_get hkS] at HSk
      obtain ⟨x, hx⟩ := Int.eq_ofNat_of_zero_le hrg.1
      have hxg : x < g.length := by omega
      rw [hx] at e5 HSk
      rw [Int.toNat_natCast] at HSk
      obtain ⟨hp1, hp2⟩ := HPk.out x hxg
      have hfs := HFs.out x hxg
      have hbk := HBig.out k hk
      have HBw : Hid (Below w.heap.size w wr) := Lib.hid (HB2.out.trans (HB.out.mono HB2.out.size))
      obtain ⟨A7, c7, rfl, hc7, _⟩ := own_cap HO.out
      clear hrg hx
      go_wp2_with fail
      refine (CNn.out wr).mono ?_
      rintro y w3 ⟨B, d, rfl, hs3, hb3⟩
      have CP := devPath_c A B c d g (opensT g.length) e x w3 (HH.out.keep (HBw.out.trans (hb3.mono HBw.out.size))) hs3 HZ.out
      rw [hp1, hp2, opens_len] at CP
      have HCP := Lib.hid CP
      have HO3 := Lib.hid (ownsRow_below HO.out hb3)
      have HB3 := Lib.hid (HB.out.trans (hb3.mono HB.out.size))
      clear CP hs3 hb3 hp1 hp2 HO HB HBw
      obtain ⟨F, hF⟩ : ∃ F, firstF g (opensT g.length) e x = F := ⟨_, rfl⟩
      rw [hF] at HCP HSk hfs
      clear hF
      go_wp2_with fail
      refine HCP.out.mono ?_
      rintro y w4 ⟨u4, rfl, hu4, hb4⟩
      have HO4 := Lib.hid (ownsRow_below HO3.out hb4)
      have HU4 := Lib.hid (ownsRow_base hu4 (base2 := w2.heap.size) HB3.out.size)
      have HB4 := Lib.hid (HB3.out.trans (hb4.mono HB3.out.size))
      obtain ⟨A6, c6, rfl, hc6, _⟩ := own_cap HU4.out
      clear hu4 hb4 HCP HO3 HB3
      by_cases hcond : 0 < F.length ∧ ((BS k).length = 0 ∨ F.length < (BS k).length)
      · have HE : Hid (BS (k + 1) = F) := Lib.hid (by rw [HSk.out, if_pos hcond])
        clear HSk
        have h1 : 0 < F.length := hcond.1
        generalize BS k = Bk at *
        by_cases h2 : Bk.length = 0
        · have h3 : ((Bk.length : Int) == 0) = true := by rw [beq_iff_eq]; omega
          clear hcond
          go_wp2
          go_roundw
          case rel => exact ⟨k + 1, by go_num, by omega, by rw [HE.out]; exact HU4, HB4⟩
          case measure => simp [intOf]; omega
        · have h3 : ((Bk.length : Int) == 0) = false := by rw [beq_eq_false_iff_ne]; omega
          have h4 : F.length < Bk.length := by omega
          clear hcond
          go_wp2
          go_roundw
          case rel => exact ⟨k + 1, by go_num, by omega, by rw [HE.out]; exact HU4, HB4⟩
          case measure => simp [intOf]; omega
      · have HE : Hid (BS (k + 1) = BS k) := Lib.hid (by rw [HSk.out, if_neg hcond])
        clear HSk
        by_cases h1 : 0 < F.length
        · have h3 : ¬ (BS k).length = 0 := fun h => hcond ⟨h1, .inl h⟩
          have h4 : ¬ F.length < (BS k).length := fun h => hcond ⟨h1, .inr h⟩
          generalize BS k = Bk at *
          have h5 : ((Bk.length : Int) == 0) = false := by rw [beq_eq_false_iff_ne]; omega
          clear hcond
          go_wp2
          go_roundw
          case rel => exact ⟨k + 1, by go_num, by omega, by rw [HE.out]; exact HO4, HB4⟩
          case measure => simp [intOf]; omega
        · clear hcond
          generalize BS k = Bk at *
          go_wp2
          go_roundw
          case rel => exact ⟨k + 1, by go_num, by omega, by rw [HE.out]; exact HO4, HB4⟩
          case measure => simp [intOf]; omega
    · obtain rfl : k = l.length := by omega
      have HOw := Lib.hid (ownsRow_base HO.out (base2 := w.heap.size) HB2.out.size)
      have HBw := Lib.hid (HB2.out.trans (HB.out.mono HB2.out.size))
      clear HO
      go_wp2
      go_ret
      exact ⟨_, rfl, HOw.out, HBw.out⟩
end Go.Proofs.Ytfgpenekmokdiaa
