/- Contract of the reference's First of layer 7: the first shortest path between two vertices. -/
import Derived.Test.YthfhplhdfnebhaaGrHops
namespace Go.Proofs.Ythfhplhdfnebhaa
open Go Go.RowKit Fl

theorem own_one {w : World} {base F : Nat} {e : TypeId} {u : Value} (h : w.heap[F]? = some (.cells #[u] e (0, 0))) (hb : base ≤ F) : w.ownsRow base e 1 (.slice (some ⟨F, 0, none⟩) 1 1) 1 [u] :=
  ⟨rfl, .inr ⟨F, 1, _, rfl, hb, h, Nat.le_refl _, by unfold maxLen; omega, rfl, rfl⟩⟩
theorem pathF_tail {h : List Int} {f : Nat} {v y : Int} (e : atI h v = y) : (pathF h (f + 1) v).tail = y :: (pathF h f y).tail := by
  unfold pathF
  rw [e]
  cases f <;> rfl
theorem hopsL_atI {g : GraphD} {dist : List Int} {v : Nat} (hv : v < g.length) : atI (hopsL g dist) v = hopV g dist v := by
  unfold atI; rw [Int.toNat_natCast, List.getD_eq_getElem?_getD, hopsL_at hv]; rfl
set_option maxRecDepth 100000 in
set_option maxHeartbeats 4000000 in
theorem first_c (A B : Option Addr) (c d : Nat) (g : GraphD) (s : List Bool) (a goal : Nat) (w : World) (hh : RowsAt w A g) (hs : Holds w B (s.map Bo)) (hg : validG g = true) (hsl : s.length = g.length) (ha : a < g.length) (hgoal : goal < g.length) :
    Calls Try.prog 60 #[.slice A g.length c, .slice B s.length d, .int .i64 a, .int .i64 goal] w fun e w' => ∃ v, e = .returned v ∧ w'.ownsRow w.heap.size 3 1 v (firstF g s a goal).length ((firstF g s a goal).map Iv) ∧ Below w.heap.size w w' := by
  have CD := Lib.hid (dist_c A B c d g s goal w hh hs hg hsl hgoal)
  have CH := Lib.hid (fun W (hW : Below w.heap.size w W) => hops_c A B c d g s goal W (hh.keep hW) (hs.keep hW) hg hsl hgoal)
  have HG := Lib.hid hg
  have HSht := Lib.hid (fun h : atB s goal = true => distF_shut (g := g) h)
  have HInv := Lib.hid (fun h : atB s goal = false => distF_inv hg hgoal h)
  have HDL := Lib.hid (distF_length g s goal)
  have HF : Hid (firstF g s a goal = if (distF g s goal).getD a (-1) < 0 then [] else pathF (hopsL g (distF g s goal)) ((distF g s goal).getD a (-1)).toNat a) := Lib.hid rfl
  clear hh hs hg hsl
  generalize firstF g s a goal = res at *
  generalize distF g s goal = dist at *
  go_enter Try.func60, Try.ntmps60
  go_wp2_with fail
  refine CD.out.mono ?_
  rintro e w2 ⟨vd, rfl, ownD, hb2⟩
  obtain ⟨AD, cD, rfl, hD⟩ := own_is ownD
  have had : a < dist.length := by have := HDL.out; omega
  obtain ⟨bd, od, rfl, ed⟩ := hD.iv had
  have hgd : dist.getD a (-1) = dist[a] := by rw [List.getD_eq_getElem?_getD, List.getElem?_eq_getElem had]; rfl
  rw [hgd] at HF
  have HGD := Lib.hid hgd
  have HB2 := Lib.hid hb2
  clear CD ownD hD hb2 hgd
  by_cases hneg : dist[a] < 0
  · have hdec : decide (dist[a] < 0) = true := by simpa using hneg
    rw [if_pos hneg] at HF
    clear hneg HGD
    generalize dist[a] = da at *
    go_wp2
    go_ret
    exact ⟨_, rfl, by rw [HF.out]; exact World.ownsRow_nil _ _ _ _, HB2.out⟩
  · have hdec : decide (dist[a] < 0) = false := by simpa using hneg
    have hso : atB s goal = false := by
      rcases h : atB s goal with _ | _
      · rfl
      · exfalso
        apply hneg
        rw [← HGD.out, HSht.out h, List.getD_eq_getElem?_getD, List.getElem?_replicate]
        split <;> simp
    have HI := Lib.hid (HInv.out hso)
    have HLow := Lib.hid (HI.out.low a)
    rw [if_neg hneg] at HF
    rw [HGD.out] at HLow
    obtain ⟨f0, hf0⟩ := Int.eq_ofNat_of_zero_le (show 0 ≤ dist[a] by omega)
    have hf24 : f0 ≤ 24 := by have := HLow.out; omega
    have HF0 : Hid (dist.getD a (-1) = (f0 : Int)) := Lib.hid (HGD.out.trans hf0)
    rw [hf0, Int.toNat_natCast] at HF
    rw [hf0] at ed hdec
    have HCH := Lib.hid (CH.out w2 HB2.out)
    clear hneg hf0 HGD HLow hso HInv HSht CH
    go_wp2_with fail
    refine HCH.out.mono ?_
    rintro e w3 ⟨vh, rfl, ownH, hb3⟩
    obtain ⟨AH, cH, rfl, hH⟩ := own_is ownH
    have HH := Lib.hid hH
    have HB3 := Lib.hid (HB2.out.trans (hb3.mono HB2.out.size))
    clear ownH hH hb3 HCH ed hdec
    go_wp2
    have own4 : (w3.alloc (.cells #[.int .i64 a] 3)).ownsRow w3.heap.size 3 1 (.slice (some ⟨w3.heap.size, 0, none⟩) 1 1) ([(a : Int)]).length (([(a : Int)]).map Iv) := own_one (heap_alloc_new w3 _) (Nat.le_refl _)
    have hb4 : Below w3.heap.size w3 (w3.alloc (.cells #[.int .i64 a] 3)) := (Below.refl _ _).alloc (Nat.le_refl _) _
    have HO4 := Lib.hid own4
    have HP4 : Hid ([(a : Int)] ++ (pathF (hopsL g dist) f0 a).tail = res) := Lib.hid (by rw [HF.out]; cases f0 <;> rfl)
    clear own4 HF
    go_loopw [2, 10] (fun u v wr => ∃ (cur f : Nat) (out : List Int), u = .int .i64 cur ∧ cur < g.length ∧ Hid (dist.getD cur (-1) = (f : Int)) ∧ f ≤ 24 ∧ out.length ≤ 25 - f ∧ Hid (out ++ (pathF (hopsL g dist) f cur).tail = res) ∧ Hid (wr.ownsRow w3.heap.size 3 1 v out.length (out.map Iv)) ∧ Below w3.heap.size w3 wr) (fun u _ _ => (dist.getD (intOf u).toNat (-1)).toNat)
    case atStart => exact ⟨a, f0, _, rfl, ha, HF0, hf24, by simp; omega, HP4, HO4, hb4⟩
    case round =>
      clear HO4 HP4 hb4 HF0 hf24
      obtain ⟨cur, f, out, rfl, hcur, HFc, hf24, hol, HP, HO, hb⟩ := hrel
      by_cases hcg : cur = goal
      · have hne : ((cur : Int) != (goal : Int)) = false := by simp [hcg]
        have hf0 : f = 0 := by
          have h := (HI.out.goal cur hcur).2 hcg
          rw [HFc.out] at h
          omega
        have HR : Hid (out = res) := Lib.hid (by
          have h := HP.out
          rw [hf0] at h
          simpa [pathF] using h)
        clear HP
        go_wp2
        go_ret
        exact ⟨_, rfl, by rw [← HR.out]; exact ownsRow_base HO.out HB3.out.size, HB3.out.trans (hb.mono HB3.out.size)⟩
      · have hne : ((cur : Int) != (goal : Int)) = true := by rw [bne_iff_ne]; omega
        have hpos : 0 < dist.getD cur (-1) := by
          rw [HFc.out]
          rcases Nat.eq_zero_or_pos f with h | h
          · exfalso
            apply hcg
            apply (HI.out.goal cur hcur).1
            rw [HFc.out, h]; rfl
          · omega
        obtain ⟨y, hy1, hy2, hy3⟩ := hop_near HI.out HG.out hcur hpos
        rw [HFc.out] at hpos hy3
        obtain ⟨f', rfl⟩ : ∃ f', f = f' + 1 := ⟨f - 1, by omega⟩
        have HFy : Hid (dist.getD y (-1) = (f' : Int)) := Lib.hid (by rw [hy3]; omega)
        have HP2 : Hid ((out ++ [(y : Int)]) ++ (pathF (hopsL g dist) f' y).tail = res) := Lib.hid (by
          rw [← HP.out, pathF_tail (y := (y : Int)) (by rw [hopsL_atI hcur, hy1])]
          simp)
        have hhl : cur < (hopsL g dist).length := by simp [hopsL]; exact hcur
        obtain ⟨bh, oh, rfl, eh⟩ := HH.out.iv hhl
        have hbh : bh < w3.heap.size := World.block_lt_of_cell? _ _ eh
        have hhy : (hopsL g dist)[cur] = (y : Int) := by
          have h := hopsL_at (dist := dist) hcur
          rw [List.getElem?_eq_getElem hhl, hy1] at h
          injection h
        rw [hhy] at eh
        have ehr : wr.cell? ⟨bh, oh + cur, none⟩ = some (.int .i64 y) := (hb.cell (p := ⟨bh, oh + cur, none⟩) hbh).trans eh
        have base := own_base HO.out
        have hsz := hb.size
        have HMs : Hid (dist.getD cur (-1) = ((f' + 1 : Nat) : Int)) := Lib.hid HFc.out
        clear hcg hpos hy1 hy3 hhy eh HP HFc
        go_wp2_with (at_builtin; refine app_int _ rfl _ _ rfl w3.heap.size _ _ _ rfl (HO.out.alloc _) wr.heap.size y rfl (by simp [go_sem]) (by omega) (by simp; omega) ?_)
        intro v8 w8 own8 hg8
        have hb8 : Below w3.heap.size w3 w8 := (hb.alloc hb.size _).grown hg8 (by simp; omega) (fun k hk => base k hk)
        have HO8 : Hid (w8.ownsRow w3.heap.size 3 1 v8 (out ++ [(y : Int)]).length ((out ++ [(y : Int)]).map Iv)) := Lib.hid (by simpa using own8)
        clear own8 hg8 base HO
        go_wp2
        go_roundw
        case rel => exact ⟨y, f', _, rfl, hy2, HFy, by omega, by simp; omega, HP2, HO8, hb8⟩
        case measure => simp only [intOf, Int.toNat_natCast]; rw [HFy.out, HMs.out]; omega
end Go.Proofs.Ythfhplhdfnebhaa
