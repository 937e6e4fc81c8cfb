/- Joined texts. -/
import Derived.Test.YtfgpenekmokdiaaMzBE
import Derived.Test.YtfgpenekmokdiaaTdRingW
import Derived.Test.YtfgpenekmokdiaaMzAZ
import Derived.Test.YtfgpenekmokdiaaMzAR
import Derived.Test.YtfgpenekmokdiaaMzAQ
import Derived.Test.YtfgpenekmokdiaaMzAB
import Derived.Test.YtfgpenekmokdiaaMzAO
import Derived.Test.YtfgpenekmokdiaaMzAE
import Derived.OpenShut
import Derived.Test.YtfgpenekmokdiaaRows
import Derived.Test.YtfgpenekmokdiaaMzAP
import Derived.Carry
import Derived.SizedLaws
import Derived.ProofKit
import Derived.Deep.DeepHandedRow
import Derived.Lib.LaidTab
namespace Go.Proofs.Ytfgpenekmokdiaa
open Go Go.RowKit Fl

theorem dvKnown12 : DevKnown12 := known12_c
theorem dvFreeT : DevFreeT := fun A A1 A2 c c1 c2 g ts ws w hh h1 h2 hp _ _ => by
  refine (devFree_c A A1 A2 c c1 c2 g ts ws w hh h1 h2 (Sized.valid hp.graph)).mono ?_
  rintro e w' ⟨hb, he⟩
  rw [if_pos (posB_iff.2 hp)] at he
  exact ⟨he, hb⟩
theorem dvStuckT : DevStuckT := fun A A1 A2 c c1 c2 g ts ws w hh h1 h2 hp _ _ => devStuck_c A A1 A2 c c1 c2 g ts ws w hh h1 h2 (Sized.valid hp.graph)
theorem dvValidT : DevValidT := fun A A1 A2 c c1 c2 g ts ws w hh h1 h2 hp _ _ => by
  refine (devValidT_c A A1 A2 c c1 c2 g ts ws w hh h1 h2 (Sized.valid hp.graph)).mono ?_
  rintro e w' ⟨rfl, hb⟩
  exact ⟨by rw [posB_iff.2 hp], hb⟩
theorem dvRingT : DevRingT := fun A A1 A2 c c1 c2 g ts ws w hh h1 h2 hp _ _ hr => by
  refine (devRing_c A A1 A2 c c1 c2 g ts ws w hh h1 h2 (Sized.valid hp.graph)).mono ?_
  rintro e w' ⟨hb, he⟩
  rw [posB_iff.2 hp] at he
  unfold ringE at hr
  unfold ringL
  rcases he with ⟨h, _⟩ | ⟨_, h, _⟩ | ⟨_, r, u, h, rfl, ho⟩
  · cases h
  · rw [h] at hr; cases hr
  · rw [h]
    exact ⟨⟨u, rfl, ho⟩, hb⟩
theorem dvTightT : DevTightT := fun A c g w hh hg => by
  refine ⟨fun h => ?_, fun h => ?_⟩
  · refine (devTight_c A c g w hh (Sized.valid hg)).mono ?_
    rintro e w' ⟨hb, he⟩
    rw [if_pos hg, if_pos h] at he
    exact ⟨he, hb⟩
  · refine (devTight_c A c g w hh (Sized.valid hg)).mono ?_
    rintro e w' ⟨hb, he⟩
    rw [if_pos hg, if_neg h] at he
    exact ⟨he, hb⟩
theorem dvReplayT : DevReplayT := devReplayT_c
theorem dvFillT : DevFillT := fun A c e g w hh hg he => by
  have key := devFill_c A c e g w hh (Sized.valid hg)
  refine ⟨fun h => key.mono ?_, fun h => key.mono ?_⟩
  · rintro x w' ⟨hb, hx⟩
    rcases hx with ⟨h1, _⟩ | ⟨_, h1, _⟩ | ⟨_, _, _, h2⟩ | ⟨_, _, h1, _⟩
    · rw [hg] at h1; cases h1
    · exact absurd (show (0 : Int) ≤ (e : Int) ∧ (e : Int) < g.length by omega) h1
    · exact ⟨h2, hb⟩
    · rw [Int.toNat_natCast] at h1; omega
  · rintro x w' ⟨hb, hx⟩
    rcases hx with ⟨h1, _⟩ | ⟨_, h1, _⟩ | ⟨_, _, h1, _⟩ | ⟨_, _, _, u, h2, ho⟩
    · rw [hg] at h1; cases h1
    · exact absurd (show (0 : Int) ≤ (e : Int) ∧ (e : Int) < g.length by omega) h1
    · rw [Int.toNat_natCast] at h1; omega
    · rw [Int.toNat_natCast] at ho
      exact ⟨⟨u, h2, ho⟩, hb⟩
end Go.Proofs.Ytfgpenekmokdiaa
namespace Go.Proofs.Ytfgpenekmokdiaa
open Go Go.RowKit Fl

theorem rows_of {w : World} {base c : Nat} {A : Option Addr} {g : GraphD} (h : RowsOwn w base (.slice A g.length c) g) : RowsAt w A g := by
  obtain ⟨A2, c2, h1, h2⟩ := h.at_
  injection h1 with h1
  subst h1
  exact h2
set_option maxRecDepth 100000 in
set_option maxHeartbeats 8000000 in
theorem tokenBelow_c (hK : DevKnown12) (hG : DevGirth) (hF : DevFreeT) (hS : DevStuckT) (C : Option Addr) (k : Nat) (zs : List Int) (w : World) (hz : IntsAt w w.heap.size C zs) (hzl : zs.length ≤ maxLen) :
    Calls Try.prog 5 #[.slice C zs.length k] w fun e w' => e = .returned (.bool true) ∧ Below w.heap.size w w' := by
  have CK := Lib.hid (hK w)
  have HZ := Lib.hid hz
  have HL := Lib.hid hzl
  have HG := Lib.hid hG
  have hF := Lib.hid hF
  have hS := Lib.hid hS
  clear hK hz hzl hG
  go_enter Try.func5, Try.ntmps5
  go_wp2_with fail
  refine CK.out.mono ?_
  rintro e w1 ⟨rfl, hb1⟩
  have ht := tape_new (c := k) HZ.out (Nat.le_refl _) hb1 HL.out
  have hb2 : Below w.heap.size w (w1.alloc (.cells #[.slice C zs.length k, .int .i64 0] 27)) := hb1.alloc hb1.size _
  have HT2 := Lib.hid ht
  have hgB : w.heap.size ≤ w1.heap.size := hb1.size
  have HB2 := Lib.hid hb2
  have hsz2 : w1.heap.size < (w1.alloc (.cells #[.slice C zs.length k, .int .i64 0] 27)).heap.size := by simp
  clear hb1 ht hb2 CK HZ HL
  go_wp2_with fail
  refine (graph_c w.heap.size w1.heap.size _ 10 _ HT2.out (by omega) (by omega) hsz2).mono ?_
  rintro e w3 ⟨gv, g, rfl, hgl, hok, hown3, ht3, hst3⟩
  obtain ⟨A, c, rfl, _⟩ := hown3.at_
  have HV := Lib.hid (hok.valid (by omega))
  have HT3 := Lib.hid ht3
  have HO3 := Lib.hid hown3
  have HB3 := Lib.hid (HB2.out.trans (hst3.below HB2.out.size hgB))
  have hsz3 := Nat.lt_of_lt_of_le hsz2 hst3.size
  generalize w1.alloc (.cells #[.slice C zs.length k, .int .i64 0] 27) = w2 at *
  generalize w1.heap.size = gt at *
  clear hok ht3 hown3 hst3 HT2 HB2
  have hlow : gt < w2.heap.size := hsz2
  go_wp2_with (refine make_any _ rfl _ _ 50 4 (.bool false) 1 Try.underlying50 Try.infoBoolS rfl (by decide) rfl .i64 .i64 _ _ g.length rfl rfl rfl rfl (by omega) ?_)
  intro wM ownM hbM
  have HRM : Hid (RowsAt wM A g) := Lib.hid (rows_of (HO3.out.keep hbM))
  have HSM : Hid (Holds wM (some ⟨w3.heap.size, 0, none⟩) ((opensT g.length).map Bo)) := Lib.hid (by
    obtain ⟨A2, c2, h1, h2⟩ := own_is ownM
    injection h1 with h1
    subst h1
    unfold opensT
    rw [List.map_replicate]
    exact h2)
  have HBM := Lib.hid hbM
  clear ownM hbM
  go_wp2_with fail
  refine (girth_ok HG.out HRM.out HSM.out HV.out rfl (opens_len _)).mono ?_
  rintro e w4 ⟨X, cx, hcx, rfl, hx4, hb4⟩
  have HX4 := Lib.hid hx4
  have hbMi : Below w3.heap.size w3 w4 := HBM.out.trans (hb4.mono HBM.out.size)
  have HM4 := Lib.hid hbMi
  clear hbMi hb4 hx4 HRM HSM HBM
  have HO4 := Lib.hid (HO3.out.keep HM4.out)
  have HT4 := Lib.hid (HT3.out.keep HM4.out)
  have HB4 := Lib.hid (HB3.out.trans (HM4.out.mono HB3.out.size))
  have hsz4 : gt < w4.heap.size := Nat.lt_of_lt_of_le hsz3 HM4.out.size
  clear HO3 HT3 HB3 HM4 HX4
  go_wp2_with fail
  refine (position_any w.heap.size gt _ 9 _ A c g w4 HT4.out (by omega) (by omega) hsz4 HV.out (by omega) HO4.out hlow).mono ?_
  rintro e w5 ⟨v1, v2, ts, ws, rfl, hrows, hpos, hts, ht5, hst5⟩
  obtain ⟨A1, c1, rfl, hc1, hh1⟩ := own_cap hrows.one
  obtain ⟨A2, c2, rfl, hc2, hh2⟩ := own_cap hrows.two
  have H1 := Lib.hid hh1
  have H2 := Lib.hid hh2
  have HP := Lib.hid hpos
  have HR5 := Lib.hid (rows_of (HO4.out.but hst5.asGrown hlow))
  have HB5 := Lib.hid (HB4.out.trans (hst5.below HB4.out.size hgB))
  have hts9 : ts.length ≤ 9 := hts
  have hws9 : ws.length ≤ 9 := by have := hpos.len; omega
  clear hrows hpos hts ht5 hst5 hh1 hh2 HO4 HT4 HB4
  generalize hgl0 : (girF g (opensT g.length)).length = n at *
  have HN := Lib.hid hgl0
  clear hgl0
  go_wp2
  go_loop [10] (fun i => ∃ j : Nat, i = .int .i64 j ∧ j ≤ ws.length ∧ Hid (∀ q (h : q < ws.length), q < j → 0 ≤ ws[q])) (fun i => ws.length - (intOf i).toNat)
  case atStart => exact ⟨0, rfl, Nat.zero_le _, Lib.hid (fun q _ h => by omega)⟩
  case round =>
    obtain ⟨j, rfl, hj, HJ⟩ := hrel
    by_cases hlt : j < ws.length
    · obtain ⟨b2, o2, rfl, e2⟩ := H2.out.iv hlt
      by_cases hy : ws[j] < 0
      · clear HJ
        generalize ws[j] = y at *
        go_wp2
        go_ret
        exact ⟨rfl, HB5.out⟩
      · have HJ2 : Hid (∀ q (h : q < ws.length), q < j + 1 → 0 ≤ ws[q]) := Lib.hid (fun q h hq => by
          rcases Nat.lt_succ_iff_lt_or_eq.1 hq with h3 | rfl
          · exact HJ.out q h h3
          · omega)
        clear HJ
        generalize ws[j] = y at *
        go_wp2
        go_round
        case rel => exact ⟨j + 1, by go_num, by omega, HJ2⟩
        case measure => simp [intOf]; omega
    · have HW : Hid (∀ q (h : q < ws.length), 0 ≤ ws[q]) := Lib.hid (fun q h => HJ.out q h (by omega))
      clear HJ
      by_cases h0 : ts.length = 0
      · obtain rfl : ts = [] := List.eq_nil_of_length_eq_zero h0
        clear h0
        go_wp2
        go_ret
        exact ⟨rfl, HB5.out⟩
      · have hz : ((ts.length : Int) == 0) = false := by rw [beq_eq_false_iff_ne]; omega
        have hz2 : ¬ ts.length = 0 := h0
        by_cases hn : 0 < n ∧ n ≤ ts.length
        · obtain ⟨hn1, hn2⟩ := hn
          go_wp2
          go_ret
          exact ⟨rfl, HB5.out⟩
        · have HF := Lib.hid (free_below HP.out (opens_open g.length) HW.out (by omega) (by rw [HN.out]; omega))
          have CF := Lib.hid (hF.out A A1 A2 c c1 c2 g ts ws w5 HR5.out H1.out H2.out HP.out hc1 hc2)
          have HFl := Lib.hid (freeL_len ts ws ts.length)
          have HSt : Hid (stuckB g ts ws = false) := Lib.hid (by
            unfold stuckB
            rw [decide_eq_false (fun h => HF.out (List.eq_nil_of_length_eq_zero h)), Bool.and_false, Bool.false_and])
          have hfp : 0 < (freeL ts ws ts.length).length := List.length_pos_iff.2 HF.out
          clear HF HW
          generalize freeL ts ws ts.length = fr at *
          have hn3 : ¬ (0 < n) ∨ ¬ (n ≤ ts.length) := by omega
          rcases hn3 with hn3 | hn3
          all_goals
            go_wp2_with fail
            refine CF.out.mono ?_
            rintro e w6 ⟨⟨u, rfl, hu⟩, hb6⟩
            obtain ⟨A6, c6, rfl, _⟩ := own_is hu
            have HB6 := Lib.hid (HB5.out.trans (hb6.mono HB5.out.size))
            have CS := Lib.hid (hS.out A A1 A2 c c1 c2 g ts ws w6 (HR5.out.keep hb6) (H1.out.keep hb6) (H2.out.keep hb6) HP.out hc1 hc2)
            rw [HSt.out] at CS
            clear hu hb6
            generalize fr.length = fl at *
            go_wp2_with fail
            refine CS.out.mono ?_
            rintro e w7 ⟨rfl, hb7⟩
            have HB7 := Lib.hid (HB6.out.trans (hb7.mono HB6.out.size))
            clear hb7
            go_wp2
            go_ret
            exact ⟨rfl, HB7.out⟩
end Go.Proofs.Ytfgpenekmokdiaa
namespace Go.Proofs.Ytfgpenekmokdiaa
open Go Go.RowKit Fl

end Go.Proofs.Ytfgpenekmokdiaa
namespace Go.Proofs.Ytfgpenekmokdiaa
open Go Go.RowKit Fl

/-- The first edge of a closed walk, and the way back. -/
theorem closed_two {g : GraphD} {s : List Bool} {l : List Int} (hg : validG g = true) (h : ClosedL g s l) : ∃ v y : Nat, l[0]? = some (v : Int) ∧ EdgeG g v y ∧ both g s v y := by
  have hl : 0 < l.length := List.length_pos_iff.2 h.walk.ne
  have h0 : l[0]? = some l[0] := List.getElem?_eq_getElem hl
  have ho := h.walk.ok _ (get_mem h0)
  obtain ⟨v, hv⟩ := Int.eq_ofNat_of_zero_le ho.1
  have hz : l[l.length - 1]? = some l[l.length - 1] := List.getElem?_eq_getElem (by omega)
  have hback := h.back _ _ h0 hz
  have hlo := h.walk.ok _ (get_mem hz)
  have hvl : v < g.length := by have := ho.2.1; omega
  have hvs : atB s v = false := by have := ho.2.2; rwa [hv, Int.toNat_natCast] at this
  by_cases h1 : l.length = 1
  · exfalso
    have e : l[l.length - 1] = l[0] := by
      have : l[l.length - 1]? = l[0]? := by rw [h1]
      rw [hz, h0] at this
      injection this
    rw [e] at hback
    have he := edgeI_nat hback ho
    exact (he.range hg).2.2 rfl
  · have hy : l[1]? = some l[1] := List.getElem?_eq_getElem (by omega)
    have hedge := h.walk.edge 0 _ _ h0 hy
    have hyo := h.walk.ok _ (get_mem hy)
    have hr := h.walk.rn (l.length - 2) 1 _ _ hy (by rw [← hz]; congr 1; omega)
    have hr2 := hr.snoc (edgeI_nat hback ho) (by rw [hv, Int.toNat_natCast]; exact hvl) (by rw [hv, Int.toNat_natCast]; exact hvs)
    have he := edgeI_nat hedge hyo
    rw [hv, Int.toNat_natCast] at hr2 he
    have hyr := hr2.left
    exact ⟨v, l[1].toNat, by rw [h0, hv], he, .step (.refl hvl hvs) he hyr.1 hyr.2, hr2.path⟩
/-- A vertex with an edge to one that reaches it is on a closed walk. -/
theorem gir_ne {g : GraphD} {s : List Bool} {v y : Nat} (hg : validG g = true) (hv : v < g.length) (hs : atB s v = false) (he : EdgeG g v y) (hp : PathG g s y v) : girF g s ≠ [] := by
  obtain ⟨k, hk⟩ := rn_of_path hp
  have hd := dist_le hg hk
  obtain ⟨j, hj, e⟩ := List.mem_iff_getElem.1 (show (y : Int) ∈ rowG g v from he)
  have hgd : (rowG g v).getD j 0 = (y : Int) := by rw [List.getD_eq_getElem?_getD, List.getElem?_eq_getElem hj, e]; rfl
  have hat : atI (distF g s v) ((rowG g v).getD j 0) = dAt (distF g s v) y := by rw [hgd]; unfold atI; rw [Int.toNat_natCast]
  obtain ⟨b1, _⟩ := bestK_least (dist := distF g s v) hg hv _ j (Nat.le_refl _) hj (by rw [hat]; exact hd.1)
  have hne : thrF g s v ≠ [] := by
    unfold thrF
    rw [hs]
    simp only [Bool.false_eq_true, if_false]
    rw [if_neg (by omega)]
    simp
  exact (girK_least g.length v hv hne).1
theorem gir_none {g : GraphD} {s : List Bool} (hg : validG g = true) : girF g s = [] ↔ ∀ v : Nat, v < g.length → nameOf g s v < 0 ∨ nameOf g s v = v := by
  constructor
  · intro h v hv
    rcases name_cases g s v with ⟨h1, _⟩ | ⟨w, h1, _, h2, _⟩
    · exact .inl (by omega)
    · right
      by_cases hvw : w = v
      · rw [h1, hvw]
      · exfalso
        obtain ⟨k, hk⟩ := rn_of_path h2.1
        cases hk with
        | zero _ _ => exact hvw rfl
        | succ a1 a2 a3 a4 => exact gir_ne hg hv a2 a3 (a4.path.trans h2.2) h
  · intro h
    apply Classical.byContradiction
    intro hne
    obtain ⟨v, y, _, he, hb⟩ := closed_two hg (gir_closed hg hne)
    have h1 := hb.1.left
    have h2 := hb.1.right
    obtain ⟨a, ha, _⟩ := name_open h1.1 h1.2
    obtain ⟨b, hb2, _⟩ := name_open h2.1 h2.2
    have e := name_eq hb
    rcases h v h1.1 with h3 | h3
    · omega
    · rcases h y h2.1 with h4 | h4
      · omega
      · have := (he.range hg).2.2
        omega
theorem closed_mono {g : GraphD} {s m : List Bool} (hm : ∀ u, atB s u = true → atB m u = true) {l : List Int} (h : ClosedL g m l) : ClosedL g s l := by
  refine ⟨⟨h.walk.ne, fun x hx => ?_, h.walk.edge⟩, h.back⟩
  obtain ⟨h1, h2, h3⟩ := h.walk.ok x hx
  refine ⟨h1, h2, ?_⟩
  rcases e : atB s x.toNat with _ | _
  · rfl
  · rw [hm _ e] at h3; cases h3
theorem closed_more {g h : GraphD} {s : List Bool} (hl : h.length = g.length) (he : ∀ (u : Nat) (z : Int), z ∈ rowG g u → z ∈ rowG h u) {l : List Int} (hc : ClosedL g s l) : ClosedL h s l := by
  refine ⟨⟨hc.walk.ne, fun x hx => ?_, fun i x y hx hy => he _ _ (hc.walk.edge i x y hx hy)⟩, fun x y hx hy => he _ _ (hc.back x y hx hy)⟩
  obtain ⟨h1, h2, h3⟩ := hc.walk.ok x hx
  exact ⟨h1, by rw [hl]; exact h2, h3⟩
theorem girK_upto {g : GraphD} {s : List Bool} (k : Nat) : girK g s (k + 1) = if 0 < (thrF g s k).length ∧ ((girK g s k).length = 0 ∨ (thrF g s k).length < (girK g s k).length) then thrF g s k else girK g s k := rfl
end Go.Proofs.Ytfgpenekmokdiaa
namespace Go.Proofs.Ytfgpenekmokdiaa
open Go Go.RowKit Fl

end Go.Proofs.Ytfgpenekmokdiaa
namespace Go.Proofs.Ytfgpenekmokdiaa
open Go Go.RowKit Fl

theorem Holds.takeG {w : World} {A : Option Addr} {xs : List Value} (h : Holds w A xs) (m : Nat) : Holds w A (xs.take m) := by
  rcases h with h | ⟨b, o, hA, hb, hc⟩
  · exact .inl (by rw [h]; simp)
  · exact .inr ⟨b, o, hA, hb, fun j hj => by rw [hc j (by simp at hj; omega)]; simp⟩
end Go.Proofs.Ytfgpenekmokdiaa
namespace Go.Proofs.Ytfgpenekmokdiaa
open Go.ChangeShapes Go.WideShapes Go.ChangeAt Go.RowKit

theorem own_none : ownKnob Try.prog.godebug = none := by kernel_rfl
noncomputable def laidWorld (os : Os) : World := World.holding Try.prog os ⟨#[], #[], []⟩
theorem laid_at (os : Os) (args : Array Value) : laidMet Try.prog [] ((laidWorld os).forCall (fun _ _ => 0) ⟨#[], args, []⟩).memory :=
  laidMet_of_run' 8 (by kernel_rfl) (by kernel_rfl)
theorem laidOut : laidOutB Try.prog = true := by kernel_rfl
theorem cellsInt : Try.prog.cellsOf 3 = 1 := by kernel_rfl
set_option maxRecDepth 100000 in
/-- An argument of type []int holds a list of numbers. -/
theorem open_list {H : Type} {enc : TypeId × Value → H} {W : World} {v : Value} {d : DataW H} {p : List MemPlace} {base : Nat}
    (hok : Value.okWide Try.prog W .any base 23 v) (h : DataW.Trod enc Try.prog W 0 (fun _ => true) true 23 v d p) :
    ∃ (A : Option Addr) (c : Nat) (zs : List Int), v = .slice A zs.length c ∧ IntsAt W W.heap.size A zs ∧ zs.length ≤ maxLen := by
  obtain ⟨a0, len, cap, rfl⟩ := okWide_slice Try.underlying23 hok
  obtain ⟨fuel, hf⟩ := h
  rcases open_ints Try.underlying23 Try.underlying3 cellsInt hf with ⟨hcs, hx⟩ | ⟨a, len', cap', zs, hcs, _, hl, hm, hz, hx, hcell, hwz⟩
  · simp [Value.cells] at hcs
    obtain ⟨rfl, rfl, rfl⟩ := hcs
    exact ⟨none, 0, [], rfl, fun h => by simp at h, by simp⟩
  · simp [Value.cells] at hcs
    obtain ⟨rfl, rfl, rfl⟩ := hcs
    simp only [if_true] at hz
    have hlen : (zs.take len).length = len := by simp; omega
    refine ⟨some a, cap, zs.take len, by rw [hlen], fun hn => ?_, by rw [hlen]; omega⟩
    rw [hlen] at hn
    obtain ⟨b, off, rfl, hc⟩ := ints_at hcell (by omega)
    refine ⟨b, off, rfl, World.block_lt_of_cell? _ _ (hc 0 (by omega)), fun j hj => ?_⟩
    rw [hlen] at hj
    have hjz : j < zs.length := by omega
    have hwj := bounds_i64 (hwz _ (List.getElem_mem hjz))
    have e : (zs.take len)[j]'(by rw [hlen]; exact hj) = zs[j] := by simp
    rw [e]
    refine ⟨?_, hwj.1, hwj.2⟩
    rw [hc j hjz]
    simp [List.getD, hjz]
end Go.Proofs.Ytfgpenekmokdiaa
