/- Joined texts. -/
import Derived.Test.YtfgpenekmokdiaaMzAU
import Derived.Test.YtfgpenekmokdiaaMzAR
import Derived.Test.YtfgpenekmokdiaaMzAM
import Derived.OpenShut
import Derived.Test.YtfgpenekmokdiaaRows
import Derived.Test.YtfgpenekmokdiaaMzAH
import Derived.Carry
import Derived.SizedLaws
import Derived.ProofKit
import Derived.Deep.DeepHandedRow
import Derived.Lib.LaidTab
import Derived.Test.YtfgpenekmokdiaaMzAP
import Derived.Deep.Matrix
import Derived.Deep.Grids
namespace Go.Proofs.Ytfgpenekmokdiaa
open Go Go.RowKit Fl

theorem dvKnown12 : DevKnown12 := known12_c
theorem dvFreeT : DevFreeT := fun A A1 A2 c c1 c2 g ts ws w hh h1 h2 hp _ _ => by
  refine (devFree_c A A1 A2 c c1 c2 g ts ws w hh h1 h2 (Sized.valid hp.graph)).mono ?_
  rintro e w' ⟨hb, he⟩
  rw [if_pos (posB_iff.2 hp)] at he
  exact ⟨he, hb⟩
theorem dvStuckT : DevStuckT := fun A A1 A2 c c1 c2 g ts ws w hh h1 h2 hp _ _ => devStuck_c A A1 A2 c c1 c2 g ts ws w hh h1 h2 (Sized.valid hp.graph)
theorem dvValidT : DevValidT := fun A A1 A2 c c1 c2 g ts ws w hh h1 h2 hp _ _ => by
  refine (devValidT_c A A1 A2 c c1 c2 g ts ws w hh h1 h2 (Sized.valid hp.graph)).mono ?_
  rintro e w' ⟨rfl, hb⟩
  exact ⟨by rw [posB_iff.2 hp], hb⟩
theorem dvRingT : DevRingT := fun A A1 A2 c c1 c2 g ts ws w hh h1 h2 hp _ _ hr => by
  refine (devRing_c A A1 A2 c c1 c2 g ts ws w hh h1 h2 (Sized.valid hp.graph)).mono ?_
  rintro e w' ⟨hb, he⟩
  rw [posB_iff.2 hp] at he
  unfold ringE at hr
  unfold ringL
  rcases he with ⟨h, _⟩ | ⟨_, h, _⟩ | ⟨_, r, u, h, rfl, ho⟩
  · cases h
  · rw [h] at hr; cases hr
  · rw [h]
    exact ⟨⟨u, rfl, ho⟩, hb⟩
theorem dvTightT : DevTightT := fun A c g w hh hg => by
  refine ⟨fun h => ?_, fun h => ?_⟩
  · refine (devTight_c A c g w hh (Sized.valid hg)).mono ?_
    rintro e w' ⟨hb, he⟩
    rw [if_pos hg, if_pos h] at he
    exact ⟨he, hb⟩
  · refine (devTight_c A c g w hh (Sized.valid hg)).mono ?_
    rintro e w' ⟨hb, he⟩
    rw [if_pos hg, if_neg h] at he
    exact ⟨he, hb⟩
theorem dvReplayT : DevReplayT := devReplayT_c
theorem dvFillT : DevFillT := fun A c e g w hh hg he => by
  have key := devFill_c A c e g w hh (Sized.valid hg)
  refine ⟨fun h => key.mono ?_, fun h => key.mono ?_⟩
  · rintro x w' ⟨hb, hx⟩
    rcases hx with ⟨h1, _⟩ | ⟨_, h1, _⟩ | ⟨_, _, _, h2⟩ | ⟨_, _, h1, _⟩
    · rw [hg] at h1; cases h1
    · exact absurd (show (0 : Int) ≤ (e : Int) ∧ (e : Int) < g.length by omega) h1
    · exact ⟨h2, hb⟩
    · rw [Int.toNat_natCast] at h1; omega
  · rintro x w' ⟨hb, hx⟩
    rcases hx with ⟨h1, _⟩ | ⟨_, h1, _⟩ | ⟨_, _, h1, _⟩ | ⟨_, _, _, u, h2, ho⟩
    · rw [hg] at h1; cases h1
    · exact absurd (show (0 : Int) ≤ (e : Int) ∧ (e : Int) < g.length by omega) h1
    · rw [Int.toNat_natCast] at h1; omega
    · rw [Int.toNat_natCast] at ho
      exact ⟨⟨u, h2, ho⟩, hb⟩
end Go.Proofs.Ytfgpenekmokdiaa
namespace Go.Proofs.Ytfgpenekmokdiaa
open Go.ChangeShapes Go.WideShapes Go.ChangeAt Go.RowKit

theorem own_none : ownKnob Try.prog.godebug = none := by kernel_rfl
noncomputable def laidWorld (os : Os) : World := World.holding Try.prog os ⟨#[], #[], []⟩
theorem laid_at (os : Os) (args : Array Value) : laidMet Try.prog [] ((laidWorld os).forCall (fun _ _ => 0) ⟨#[], args, []⟩).memory :=
  laidMet_of_run' 8 (by kernel_rfl) (by kernel_rfl)
theorem laidOut : laidOutB Try.prog = true := by kernel_rfl
theorem cellsInt : Try.prog.cellsOf 3 = 1 := by kernel_rfl
set_option maxRecDepth 100000 in
/-- An argument of type []int holds a list of numbers. -/
theorem open_list {H : Type} {enc : TypeId × Value → H} {W : World} {v : Value} {d : DataW H} {p : List MemPlace} {base : Nat}
    (hok : Value.okWide Try.prog W .any base 23 v) (h : DataW.Trod enc Try.prog W 0 (fun _ => true) true 23 v d p) :
    ∃ (A : Option Addr) (c : Nat) (zs : List Int), v = .slice A zs.length c ∧ IntsAt W W.heap.size A zs ∧ zs.length ≤ maxLen := by
  obtain ⟨a0, len, cap, rfl⟩ := okWide_slice Try.underlying23 hok
  obtain ⟨fuel, hf⟩ := h
  rcases open_ints Try.underlying23 Try.underlying3 cellsInt hf with ⟨hcs, hx⟩ | ⟨a, len', cap', zs, hcs, _, hl, hm, hz, hx, hcell, hwz⟩
  · simp [Value.cells] at hcs
    obtain ⟨rfl, rfl, rfl⟩ := hcs
    exact ⟨none, 0, [], rfl, fun h => by simp at h, by simp⟩
  · simp [Value.cells] at hcs
    obtain ⟨rfl, rfl, rfl⟩ := hcs
    simp only [if_true] at hz
    have hlen : (zs.take len).length = len := by simp; omega
    refine ⟨some a, cap, zs.take len, by rw [hlen], fun hn => ?_, by rw [hlen]; omega⟩
    rw [hlen] at hn
    obtain ⟨b, off, rfl, hc⟩ := ints_at hcell (by omega)
    refine ⟨b, off, rfl, World.block_lt_of_cell? _ _ (hc 0 (by omega)), fun j hj => ?_⟩
    rw [hlen] at hj
    have hjz : j < zs.length := by omega
    have hwj := bounds_i64 (hwz _ (List.getElem_mem hjz))
    have e : (zs.take len)[j]'(by rw [hlen]; exact hj) = zs[j] := by simp
    rw [e]
    refine ⟨?_, hwj.1, hwj.2⟩
    rw [hc j hjz]
    simp [List.getD, hjz]
end Go.Proofs.Ytfgpenekmokdiaa
namespace Go.Proofs.Ytfgpenekmokdiaa
open Go Go.RowKit Fl

theorem Holds.dropR {w : World} {b o : Nat} {xs : List Value} (h : Holds w (some ⟨b, o, none⟩) xs) (m : Nat) : Holds w (some ⟨b, o + m, none⟩) (xs.drop m) := by
  rcases h with h | ⟨b', o', hA, hb, hc⟩
  · exact .inl (by rw [h]; simp)
  · injection hA with hA
    injection hA with h1 h2
    subst h1 h2
    exact .inr ⟨_, _, rfl, hb, fun j hj => by rw [Nat.add_assoc, hc (m + j) (by simp at hj; omega)]; simp⟩
set_option maxRecDepth 100000 in
set_option maxHeartbeats 4000000 in
theorem refRing2_c (A A1 A2 : Option Addr) (c c1 c2 : Nat) (g : GraphD) (ts ws : List Int) (w : World) (hh : RowsAt w A g) (h1 : Holds w A1 (ts.map Iv)) (h2 : Holds w A2 (ws.map Iv)) (hcap : ts.length ≤ c1) (hl : g.length ≤ 1000000000000000000) (hr : ∀ r ∈ g, r.length ≤ 1000000000000000000) (R : Option (List Int)) (hR : R = (ringA ts ws (ts.length + 1) [] 0).map (fun p => turnL (fromT p.1 p.2))) (hp : posB g ts ws = true) (h0 : 0 < ts.length) :
    Calls Try.prog 16 #[.slice A g.length c, .slice A1 ts.length c1, .slice A2 ws.length c2] w fun e w' => Below w.heap.size w w' ∧ RingRes true R w.heap.size e w' := by
  have CV := Lib.hid (pos_c A A1 A2 c c1 c2 g ts ws w hh h1 h2 hcap hl hr)
  have H1 := Lib.hid h1
  have H2 := Lib.hid h2
  have HR := Lib.hid hR
  have h24 := (posB_iff.1 hp).few
  have HLen := Lib.hid (posB_iff.1 hp).len
  have h0i : ((ts.length : Int) == 0) = false := by rw [beq_eq_false_iff_ne]; omega
  rw [hp] at CV
  clear hh h1 h2 hr hp hR
  go_enter Try.func16, Try.ntmps16
  go_wp2_with fail
  refine CV.out.mono ?_
  rintro e w1 ⟨rfl, n, rfl⟩
  have HB := Lib.hid (below_drewN (Below.refl w.heap.size w) n)
  generalize w.drewN n = w1 at *
  clear CV
  go_wp2
  go_loopw [8, 9] (fun v t wr => ∃ (xs : List Int) (tn f : Nat), t = .int .i64 tn ∧ tn < ts.length ∧ xs.length + f = ts.length + 1 ∧ Hid (WayOk ts ws xs tn) ∧ Hid (ringA ts ws (ts.length + 1) [] 0 = ringA ts ws f xs tn) ∧ Hid (wr.ownsRow w.heap.size 3 1 v xs.length (xs.map Iv)) ∧ Hid (Below w.heap.size w wr)) (fun v _ _ => ts.length + 1 - lenS v)
  case atStart => exact ⟨[], 0, ts.length + 1, rfl, by omega, by simp, Lib.hid (WayOk.begin (by omega)), Lib.hid rfl, Lib.hid (World.ownsRow_nil _ _ _ _), HB⟩
  case round =>
    clear HB
    obtain ⟨xs, tn, f, rfl, htn, hf, HW, HA, HO, HB⟩ := hrel
    have hxl := HW.out.len
    obtain ⟨f, rfl⟩ : ∃ f', f = f' + 1 := ⟨f - 1, by omega⟩
    obtain ⟨A8, c8, rfl, hc8, hh8⟩ := own_cap HO.out
    have CH := Lib.hid (has_c A8 c8 xs tn wr hh8 (by omega))
    clear hh8
    by_cases hm : (tn : Int) ∈ xs
    · rw [decide_eq_true hm] at CH
      have hxp : 0 < xs.length := List.length_pos_of_mem hm
      have HR2 : Hid (R = some (turnL (fromT xs tn))) := Lib.hid (by rw [HR.out, HA.out, ringA, if_pos hm]; rfl)
      obtain ⟨b, cb, hv, hbb, hcb⟩ := own_at HO.out hxp
      injection hv with q1 _ q2
      subst q1 q2
      obtain ⟨A9, c9, hv9, hh9⟩ := own_is HO.out
      injection hv9 with q1 _ q2
      subst q1 q2
      have HXs := Lib.hid hh9
      have HM := Lib.hid hm
      clear hh9 hm HA HW HR hbb
      go_wp2_with fail
      refine CH.out.mono ?_
      rintro e w2 ⟨rfl, rfl⟩
      clear CH
      go_wp2
      go_loop [8] (fun v => ∃ j : Nat, v = .slice (some ⟨b, j, none⟩) (xs.length - j) (c8 - j) ∧ j < xs.length ∧ Hid (fromT (xs.drop j) tn = fromT xs tn) ∧ Hid ((tn : Int) ∈ xs.drop j)) (fun v => lenS v)
      case atStart => exact ⟨0, rfl, hxp, Lib.hid rfl, HM⟩
      case round =>
        clear HM
        obtain ⟨j, rfl, hj, HF, HM⟩ := hrel
        obtain ⟨bj, oj, hA, ej⟩ := HXs.out.iv hj
        injection hA with hA
        injection hA with q1 q2
        subst q1 q2
        rw [Nat.zero_add] at ej
        have h0j : (0 : Int) < ((xs.length - j : Nat) : Int) := by omega
        have h0n : 0 < xs.length - j := by omega
        have HDr := Lib.hid (List.drop_eq_getElem_cons hj)
        rw [HDr.out] at HF HM
        generalize xs[j] = x at *
        by_cases hx : x = tn
        · have HR3 : Hid (R = some (turnL (xs.drop j))) := Lib.hid (by rw [HR2.out, ← HF.out, HDr.out]; unfold fromT; rw [if_pos hx])
          have HL : Hid ((xs.drop j).length = xs.length - j) := Lib.hid (List.length_drop ..)
          have HD : Hid (Holds wr (some ⟨b, j, none⟩) ((xs.drop j).map Iv)) := Lib.hid (by
            have h := HXs.out.dropR j
            rw [Nat.zero_add, ← List.map_drop] at h
            exact h)
          subst hx
          have hjc : xs.length - j ≤ c8 - j := by omega
          have hm24 : xs.length - j ≤ 24 := by omega
          clear HF HM HDr HR2 HXs HO
          generalize xs.drop j = D at *
          generalize xs.length - j = m at *
          generalize c8 - j = cm at *
          obtain rfl : m = D.length := HL.out.symm
          clear HL
          go_wp2
          go_loopw [10, 11] (fun u i wx => ∃ k : Nat, i = .int .i64 k ∧ k ≤ D.length ∧ u = .int .i64 (leastK D k : Nat) ∧ Hid (Holds wx (some ⟨b, j, none⟩) (D.map Iv)) ∧ Hid (Below w.heap.size w wx)) (fun _ i _ => D.length - (intOf i).toNat)
          case atStart => exact ⟨0, rfl, Nat.zero_le _, rfl, HD, HB⟩
          case round =>
            clear HD HB
            obtain ⟨k, rfl, hk, rfl, HD, HB⟩ := hrel
            have hls := leastK_lt (l := D) k
            by_cases hlt : k < D.length
            · have hS : leastK D (k + 1) = if atI D k < atI D (leastK D k : Nat) then k else leastK D k := rfl
              have hll : leastK D k < D.length := by omega
              obtain ⟨b1, o1, hA, e1⟩ := HD.out.iv hlt
              injection hA with hA
              injection hA with q1 q2
              subst q1 q2
              obtain ⟨b2, o2, hA, e2⟩ := HD.out.iv hll
              injection hA with hA
              injection hA with q1 q2
              subst q1 q2
              rw [Fl.atI_get hlt, Fl.atI_get hll] at hS
              have HS := Lib.hid hS
              clear hS
              have hli : (leastK D k : Int) < (D.length : Int) := by omega
              have hki : (k : Int) < (D.length : Int) := by omega
              generalize leastK D k = n0 at *
              by_cases hx : D[k] < D[n0]
              · have HN : Hid (k = leastK D (k + 1)) := Lib.hid (by rw [HS.out, if_pos hx])
                have hd : decide (D[k] < D[n0]) = true := decide_eq_true hx
                generalize D[k] = x1 at *
                generalize D[n0] = x2 at *
                clear HS
                go_wp2
                go_quiet (fail)
                go_wp2
                go_roundw
                case rel => exact ⟨k + 1, by go_num, by omega, by rw [← HN.out], Lib.hid (HD.out.drewN _), Lib.hid (below_drewN HB.out _)⟩
                case measure => simp [intOf]; omega
              · have HN : Hid (n0 = leastK D (k + 1)) := Lib.hid (by rw [HS.out, if_neg hx])
                have hd : decide (D[k] < D[n0]) = false := decide_eq_false hx
                generalize D[k] = x1 at *
                generalize D[n0] = x2 at *
                clear HS
                go_wp2
                go_quiet (fail)
                go_wp2
                go_roundw
                case rel => exact ⟨k + 1, by go_num, by omega, by rw [← HN.out], Lib.hid (HD.out.drewN _), Lib.hid (below_drewN HB.out _)⟩
                case measure => simp [intOf]; omega
            · obtain rfl : k = D.length := by omega
              have hR4 : R = some (D.drop (leastK D D.length) ++ D.take (leastK D D.length)) := HR3.out
              have hlt0 : leastK D D.length < D.length := by omega
              have HR4 := Lib.hid hR4
              clear hls hR4 HR3
              generalize leastK D D.length = n0 at *
              have hcn : ¬ cm = n0 := by omega
              have hn1 : (n0 : Int) ≤ (D.length : Int) := by omega
              have hn2 : n0 ≤ D.length := by omega
              have hn3 : (n0 : Int) ≤ (cm : Int) := by omega
              have hn4 : n0 ≤ cm := by omega
              obtain ⟨i0, hi, hz0, hz1, hz2⟩ := info_parts Try.infoIntG
              have HD1 : Hid (((D.drop n0).map Iv).length = (D.length - n0) * 1) := Lib.hid (by simp)
              have HNw : Hid (∀ Wx, Below wr.heap.size wr Wx → ∀ q u, ((D.drop n0).map Iv)[q]? = some u → Wx.cell? ((⟨b, j + n0, none⟩ : Addr).add q) = some u) := Lib.hid (fun Wx hb q u hu => by
                have hh := HD.out.keep hb
                rw [List.getElem?_map, List.getElem?_drop] at hu
                obtain ⟨x, hx, rfl⟩ := Option.map_eq_some_iff.1 hu
                obtain ⟨hj, rfl⟩ := List.getElem?_eq_some_iff.1 hx
                obtain ⟨b', o', hA, e⟩ := hh.iv hj
                injection hA with hA
                injection hA with q1 q2
                subst q1 q2
                have hadd : (⟨b, j + n0, none⟩ : Addr).add q = ⟨b, j + (n0 + q), none⟩ := by unfold Addr.add; split <;> simp_all [Nat.add_assoc]
                rw [hadd]
                exact e)
              have HOne : Hid (∀ u ∈ (D.drop n0).map Iv, u.oneCell' = true) := Lib.hid (fun u hu => by obtain ⟨x, _, rfl⟩ := List.mem_map.1 hu; rfl)
              have HO0 : Hid (∀ (Wx : World) (gg cap : Nat), Wx.ownsRow wr.heap.size 3 1 (.slice (some ⟨gg, 0, none⟩) (0 + (D.length - n0)) cap) (0 + (D.length - n0)) ([] ++ (D.drop n0).map Iv) → Wx.ownsRow wr.heap.size 3 1 (.slice (some ⟨gg, 0, none⟩) (D.length - n0) cap) (D.length - n0) ((D.drop n0).map Iv)) := Lib.hid (fun Wx gg cap h => by rw [Nat.zero_add, List.nil_append] at h; exact h)
              have hsz := HB.out.size
              have HD2 : Hid (((D.take n0).map Iv).length = n0 * 1) := Lib.hid (by simp; omega)
              have HNt : Hid (∀ Wx, Below wr.heap.size wr Wx → ∀ q u, ((D.take n0).map Iv)[q]? = some u → Wx.cell? ((⟨b, j, none⟩ : Addr).add q) = some u) := Lib.hid (fun Wx hb q u hu => by
                have hh := HD.out.keep hb
                rw [List.map_take] at hu
                exact hh.news q u hu)
              have HOne2 : Hid (∀ u ∈ (D.take n0).map Iv, u.oneCell' = true) := Lib.hid (fun u hu => by obtain ⟨x, _, rfl⟩ := List.mem_map.1 hu; rfl)
              by_cases hn0 : 0 < n0
              · go_wp2
                go_region_law (first | (refine step_append_lies _ (by rfl) _ _ _ (by rfl) wr.heap.size 3 i0 (.int .i64 0) 1 8 Try.underlying23 hi hz0 hz1 hz2 rfl (by omega) (.slice none 0 0) 0 [] (by rfl) (World.ownsRow_nil _ _ _ _) ⟨b, j + n0, none⟩ (D.length - n0) (cm - n0) ((D.drop n0).map Iv) (by rfl) HD1.out (HNw.out _ (by repeat (first | assumption | (with_reducible exact Below.refl _ _) | (with_reducible refine Below.drew ?_)))) HOne.out (by omega) (by unfold maxLen; omega) (by omega) (by simp) _ rfl ?_; intro gg cap wn1 hown1 hgrow hat hlt; have HO1 := Lib.hid (HO0.out _ _ _ hown1); have hbn : Below wr.heap.size wr wn1 := (Below.grown (by repeat (first | assumption | (with_reducible exact Below.refl _ _) | (with_reducible refine Below.drew ?_))) hgrow (by simp) (fun k hk => by simp [Value.ownBlock] at hk)); have HB1 := Lib.hid hbn; clear hbn hown1 hgrow hat hlt) | (refine step_append_lies _ (by rfl) _ _ _ (by rfl) wr.heap.size 3 i0 (.int .i64 0) 1 8 Try.underlying23 hi hz0 hz1 hz2 rfl (by omega) (.slice (some ⟨_, 0, none⟩) (D.length - n0) _) (D.length - n0) ((D.drop n0).map Iv) (by rfl) HO1.out ⟨b, j, none⟩ n0 cm ((D.take n0).map Iv) (by rfl) HD2.out (HNt.out _ HB1.out) HOne2.out (by omega) (by unfold maxLen; omega) (by omega) HB1.out.size _ rfl ?_; intro gg2 cap2 wn2 hown2 hgrow2 hat2 hlt2; have HO2 := Lib.hid hown2; have HG2 := Lib.hid hgrow2; clear hown2 hgrow2 hat2 hlt2))
                all_goals
                  have hbs := own_base HO1.out
                  have hs1 := HB1.out.size
                  have HB3 : Hid (Below wr.heap.size wr wn2) := Lib.hid (HB1.out.grown HG2.out hs1 (fun k hk => hbs k hk))
                  have HO3 : Hid (wn2.ownsRow wr.heap.size 3 1 (.slice (some ⟨gg2, 0, none⟩) D.length cap2) (D.drop n0 ++ D.take n0).length ((D.drop n0 ++ D.take n0).map Iv)) := Lib.hid (by
                    have h := HO2.out
                    rw [List.length_append, List.map_append, List.length_drop, List.length_take, Nat.min_eq_left hn2, Nat.sub_add_cancel hn2]
                    rw [Nat.sub_add_cancel hn2] at h
                    exact h)
                  have HB4 := Lib.hid (HB.out.trans (HB3.out.mono hsz))
                  clear HO1 HO2 HG2 HB1 HB3
                  go_wp2
                  go_ret2
                  exact ⟨HB4.out, ring_some HR4.out (ownsRow_base HO3.out hsz)⟩
              · have HZ : Hid (D.drop n0 ++ D.take n0 = D.drop n0) := Lib.hid (by rw [show n0 = 0 by omega]; simp)
                have HZ0 : Hid (n0 = 0) := Lib.hid (by omega)
                clear hn0
                go_wp2
                go_region_law (first | (refine step_append_lies _ (by rfl) _ _ _ (by rfl) wr.heap.size 3 i0 (.int .i64 0) 1 8 Try.underlying23 hi hz0 hz1 hz2 rfl (by omega) (.slice none 0 0) 0 [] (by rfl) (World.ownsRow_nil _ _ _ _) ⟨b, j + n0, none⟩ (D.length - n0) (cm - n0) ((D.drop n0).map Iv) (by rfl) HD1.out (HNw.out _ (by repeat (first | assumption | (with_reducible exact Below.refl _ _) | (with_reducible refine Below.drew ?_)))) HOne.out (by omega) (by unfold maxLen; omega) (by omega) (by simp) _ rfl ?_; intro gg cap wn1 hown1 hgrow hat hlt; have HO1 := Lib.hid (HO0.out _ _ _ hown1); have hbn : Below wr.heap.size wr wn1 := (Below.grown (by repeat (first | assumption | (with_reducible exact Below.refl _ _) | (with_reducible refine Below.drew ?_))) hgrow (by simp) (fun k hk => by simp [Value.ownBlock] at hk)); have HB1 := Lib.hid hbn; clear hbn hown1 hgrow hat hlt) | (refine step_append_zero (by rfl) _ _ _ (by rfl) 3 i0 Try.underlying23 hi (some ⟨_, 0, none⟩) (some ⟨b, j, none⟩) (D.length - n0) _ n0 cm HZ0.out (own_le HO1.out (by omega)) (by rfl) (by rfl) ?_))
                all_goals
                  have HB4 := Lib.hid (HB.out.trans (HB1.out.mono hsz))
                  have HO3 : Hid (wn1.ownsRow wr.heap.size 3 1 (.slice (some ⟨gg, 0, none⟩) (D.length - n0) cap) (D.drop n0 ++ D.take n0).length ((D.drop n0 ++ D.take n0).map Iv)) := Lib.hid (by
                    have h := HO1.out
                    rw [HZ.out, List.length_drop]
                    exact h)
                  clear HO1 HB1
                  go_wp2
                  go_ret2
                  exact ⟨HB4.out, ring_some HR4.out (ownsRow_base HO3.out hsz)⟩
        · have HF2 : Hid (fromT (xs.drop (j + 1)) tn = fromT xs tn) := Lib.hid (by rw [← HF.out]; exact (if_neg hx).symm)
          have HM2 : Hid ((tn : Int) ∈ xs.drop (j + 1)) := Lib.hid (by
            rcases List.mem_cons.1 HM.out with h | h
            · exact absurd h.symm hx
            · exact h)
          have hj1 : j + 1 < xs.length := by
            have := List.length_pos_of_mem HM2.out
            rw [List.length_drop] at this
            omega
          have hx1 : (x == (tn : Int)) = false := by simpa using hx
          have hc1' : ¬ c8 - j = 1 := by omega
          have h1n : (1 : Int) ≤ ((xs.length - j : Nat) : Int) := by omega
          clear HF HM HDr
          go_wp2
          go_round
          case rel => exact ⟨j + 1, by first | rfl | simp [Nat.sub_sub], hj1, HF2, HM2⟩
          case measure => simp [lenS]; omega
    · rw [decide_eq_false hm] at CH
      have hwl : tn < ws.length := by rw [← HLen.out]; exact htn
      have HAt := Lib.hid (Fl.atI_get hwl)
      have HA2 : Hid (ringA ts ws (f + 1) xs tn = if atI ws tn < 0 ∨ onF ts (atI ws tn) < 0 then none else ringA ts ws f (xs ++ [(tn : Int)]) (onF ts (atI ws tn))) := Lib.hid (by rw [ringA, if_neg hm])
      rw [HAt.out] at HA2
      have HMore : Hid (canT ts ws tn → WayOk ts ws (xs ++ [(tn : Int)]) (Fl.stepT ts ws tn)) := Lib.hid (HW.out.more hm)
      unfold canT Fl.stepT at HMore
      rw [HAt.out] at HMore
      have hbs := own_base HO.out
      have hsz := HB.out.size
      clear hm HW
      go_wp2_with fail
      refine CH.out.mono ?_
      rintro e w2 ⟨rfl, rfl⟩
      clear CH
      go_wp2_with (at_builtin; refine app_int _ rfl _ _ rfl w.heap.size _ _ _ rfl (HO.out.alloc _) wr.heap.size tn rfl (by simp [go_sem]) (by omega) (by simp; omega) ?_)
      intro v8 w8 own8 hg8
      have HB8 : Hid (Below w.heap.size w w8) := Lib.hid ((HB.out.alloc hsz _).grown hg8 (by simp; omega) (fun k hk => hbs k hk))
      have HO8 : Hid (w8.ownsRow w.heap.size 3 1 v8 (xs ++ [(tn : Int)]).length ((xs ++ [(tn : Int)]).map Iv)) := Lib.hid (by rw [List.length_append, List.map_append]; exact own8)
      clear own8 hg8 hbs HO HB
      obtain ⟨b2, o2, rfl, e2⟩ := (H2.out.keep HB8.out).iv hwl
      have CO := Lib.hid (fun y => on_c A1 c1 ts y w8 (H1.out.keep HB8.out) (by omega))
      generalize ws[tn] = y at *
      by_cases hy : y < 0
      · have HN : Hid (R = none) := Lib.hid (by rw [HR.out, HA.out, HA2.out, if_pos (.inl hy)]; rfl)
        have hd : decide (y < 0) = true := decide_eq_true hy
        clear HA HA2 HMore CO HAt
        go_wp2
        go_ret2
        exact ⟨HB8.out, ring_none HN.out⟩
      · have hd : decide (y < 0) = false := decide_eq_false hy
        have C1 := Lib.hid (CO.out y)
        rcases onF_cases ts y with ⟨ho, _⟩ | ⟨q, hq, _, ho⟩
        · have HN : Hid (R = none) := Lib.hid (by rw [HR.out, HA.out, HA2.out, if_pos (.inr (by omega))]; rfl)
          rw [ho] at C1
          clear HA HA2 HMore CO HAt ho
          go_wp2_with fail
          refine C1.out.mono ?_
          rintro e w9 ⟨rfl, rfl⟩
          go_wp2
          go_ret2
          exact ⟨HB8.out, ring_none HN.out⟩
        · rw [ho] at C1 HA2 HMore
          have HW2 := Lib.hid (HMore.out (by omega))
          have HA3 : Hid (ringA ts ws (ts.length + 1) [] 0 = ringA ts ws f (xs ++ [(tn : Int)]) q) := Lib.hid (by rw [HA.out, HA2.out, if_neg (by omega)])
          have hxl2 : (xs ++ [(tn : Int)]).length = xs.length + 1 := by simp
          have HX2 := Lib.hid hxl2
          obtain ⟨A9, c9, rfl, _, _⟩ := own_cap HO8.out
          clear HA HA2 HMore CO HAt ho hxl2
          go_wp2_with fail
          refine C1.out.mono ?_
          rintro e w9 ⟨rfl, rfl⟩
          go_wp2_with fail
          refine C1.out.mono ?_
          rintro e w10 ⟨rfl, rfl⟩
          go_wp2
          go_roundw
          case rel => exact ⟨xs ++ [(tn : Int)], q, f, by go_num, hq, by rw [HX2.out]; omega, HW2, HA3, Lib.hid (by have h := HO8.out; rw [HX2.out] at h ⊢; exact h), HB8⟩
          case measure => simp [lenS]; omega
end Go.Proofs.Ytfgpenekmokdiaa
namespace Go.Proofs.Ytfgpenekmokdiaa
open Go Go.RowKit Fl

theorem refRing_c (A A1 A2 : Option Addr) (c c1 c2 : Nat) (g : GraphD) (ts ws : List Int) (w : World) (hh : RowsAt w A g) (h1 : Holds w A1 (ts.map Iv)) (h2 : Holds w A2 (ws.map Iv)) (hcap : ts.length ≤ c1) (hl : g.length ≤ 1000000000000000000) (hr : ∀ r ∈ g, r.length ≤ 1000000000000000000) :
    Calls Try.prog 16 #[.slice A g.length c, .slice A1 ts.length c1, .slice A2 ws.length c2] w fun e w' => Below w.heap.size w w' ∧ RingRes (posB g ts ws) (ringR ts ws) w.heap.size e w' := by
  rcases hp : posB g ts ws with _ | _
  · exact refRing0_c A A1 A2 c c1 c2 g ts ws w hh h1 h2 hcap hl hr (ringR ts ws) hp
  · rcases Nat.eq_zero_or_pos ts.length with h | h
    · obtain rfl : ts = [] := List.eq_nil_of_length_eq_zero h
      exact refRing1_c A A1 A2 c c1 c2 g ws w hh h1 h2 hl hr (ringR [] ws) rfl hp
    · exact refRing2_c A A1 A2 c c1 c2 g ts ws w hh h1 h2 hcap hl hr (ringR ts ws) (by unfold ringR; rw [if_neg (by omega)]) hp h
end Go.Proofs.Ytfgpenekmokdiaa
namespace Go.Proofs.Ytfgpenekmokdiaa
open Go.ChangeShapes Go.WideShapes Go.ChangeAt Go.RowKit Go.Deep Fl

theorem weightsAll_mem {H : Type} {P : Program} {e : TypeId} {d : DataW H} {n : Nat} : ∀ {ds : List (DataW H)}, d ∈ ds → n ∈ d.weights P e → n ∈ DataW.weightsAll P e ds
  | [], h, _ => by simp at h
  | x :: r, h, hn => by
    rw [DataW.weightsAll, List.mem_append]
    rcases List.mem_cons.1 h with rfl | h
    · exact .inl hn
    · exact .inr (weightsAll_mem h hn)
theorem addr_plain {W : World} {a : Addr} {v : Value} (h : W.cell? (a.add 0) = some v) : a = ⟨a.block, a.off, none⟩ := by
  obtain ⟨b, o, s⟩ := a
  have hs : s = none := by simpa [Addr.add] using World.cell?_spot h
  rw [hs]
theorem addr_add (b o j : Nat) : (⟨b, o, none⟩ : Addr).add j = ⟨b, o + j, none⟩ := by
  unfold Addr.add; split <;> simp_all
/-- A row of cells, given one by one. -/
theorem holds_cells {W : World} {a : Addr} {xs : List Value} (h : ∀ j (hj : j < xs.length), W.cell? (a.add j) = some xs[j]) : Holds W (some a) xs := by
  rcases Nat.eq_zero_or_pos xs.length with h0 | h0
  · exact .inl (List.eq_nil_of_length_eq_zero h0)
  · have hp := addr_plain (h 0 h0)
    have hblk := World.block_lt_of_cell? _ _ (h 0 h0)
    rw [hp] at hblk
    refine .inr ⟨a.block, a.off, congrArg some hp, by simpa [Addr.add] using hblk, fun j hj => ?_⟩
    have e := h j hj
    rw [hp, addr_add] at e
    exact e
set_option maxRecDepth 100000 in
/-- An argument of type []bool holds a list of bools. -/
theorem open_boolsG {H : Type} {enc : TypeId × Value → H} {W : World} {v : Value} {d : DataW H} {p : List MemPlace} {base : Nat}
    (hok : Value.okWide Try.prog W .any base 50 v) (h : DataW.Trod enc Try.prog W 0 (fun _ => true) true 50 v d p) (hw : ∀ n ∈ d.weights Try.prog 50, n ≤ reachBytes) :
    ∃ (A : Option Addr) (c : Nat) (s : List Bool), v = .slice A s.length c ∧ Holds W A (s.map Bo) ∧ s.length ≤ 1000000000000000000 := by
  obtain ⟨a0, len, cap, rfl⟩ := okWide_slice Try.underlying50 hok
  obtain ⟨fuel, hf⟩ := h
  rcases open_bools Try.underlying50 (by kernel_rfl) (by kernel_rfl) hf with ⟨hcs, hx⟩ | ⟨a, len', cap', B, hcs, _, hl, hm, hx, hcell⟩
  · simp [Value.cells] at hcs
    obtain ⟨rfl, rfl, rfl⟩ := hcs
    exact ⟨none, 0, [], rfl, .inl rfl, by simp⟩
  · simp [Value.cells] at hcs
    obtain ⟨rfl, rfl, rfl⟩ := hcs
    have hd := congrArg Prod.fst hx
    have hb : Try.prog.bytesOf 4 = 1 := by kernel_rfl
    have h1 := hw ((len + (cap - len)) * 1) (by
      simp only at hd
      rw [hd]; simp [boolRow, DataW.weights, Try.underlying50, hb])
    unfold reachBytes at h1
    have hlen : ((List.range len).map B).length = len := by simp
    refine ⟨some a, cap, (List.range len).map B, by rw [hlen], holds_cells fun j hj => ?_, by rw [hlen]; omega⟩
    have hj' : j < len := by simpa using hj
    rw [hcell j (by omega)]
    simp
set_option maxRecDepth 100000 in
/-- An argument of type [][]int holds lists of numbers. -/
theorem open_rowsG {H : Type} {enc : TypeId × Value → H} {W : World} {v : Value} {d : DataW H} {p : List MemPlace} {base : Nat}
    (hok : Value.okWide Try.prog W .any base 22 v) (h : DataW.Trod enc Try.prog W 0 (fun _ => true) true 22 v d p) (hw : ∀ n ∈ d.weights Try.prog 22, n ≤ reachBytes) :
    ∃ (A : Option Addr) (c : Nat) (g : GraphD), v = .slice A g.length c ∧ RowsAt W A g ∧ Sized g := by
  obtain ⟨a0, len, cap, rfl⟩ := okWide_slice Try.underlying22 hok
  obtain ⟨fuel, hf⟩ := h
  rcases open_int_rows Try.underlying22 Try.underlying23 Try.underlying3 (by kernel_rfl) cellsInt hf with ⟨hcs, hx⟩ | ⟨a, len', cap', A, L, C, Z, hcs, _, hl, hm, hx, hrow⟩
  · simp [Value.cells] at hcs
    obtain ⟨rfl, rfl, rfl⟩ := hcs
    exact ⟨none, 0, [], rfl, .inl rfl, by simp, by simp⟩
  · simp [Value.cells] at hcs
    obtain ⟨rfl, rfl, rfl⟩ := hcs
    have hd := congrArg Prod.fst hx
    simp only at hd
    have hb : Try.prog.bytesOf 23 = 24 := by kernel_rfl
    have hb2 : Try.prog.bytesOf 3 = 8 := by kernel_rfl
    have h1 := hw ((len + (cap - len)) * 24) (by
      rw [hd]; simp [DataW.weights, Try.underlying22, hb])
    unfold reachBytes at h1
    have hlen : ((List.range len).map fun r => (Z r).take (L r)).length = len := by simp
    have hL : ∀ r, r < len → ((Z r).take (L r)).length = L r := fun r hr => by
      obtain ⟨_, e2, _, e4, _⟩ := hrow r (by omega)
      simp; omega
    have hS : ∀ r, r < len → L r ≤ 1000000000000000000 := fun r hr => by
      obtain ⟨_, e2, _, e4, _, e6, _⟩ := hrow r (by omega)
      rcases hA : A r with _ | a'
      · have := e6 hA; omega
      · have h2 := hw ((((Z r).take (L r)).length + ((Z r).drop (L r)).length) * 8) (by
          rw [hd]; simp only [DataW.weights, Try.underlying22]
          refine List.mem_cons_of_mem _ (List.mem_append_left _ (weightsAll_mem (List.mem_map.2 ⟨r, List.mem_range.2 hr, rfl⟩) ?_))
          rw [hA]
          simp [intRow, lits, DataW.weights, Try.underlying23, hb2])
        unfold reachBytes at h2
        have := hL r hr
        omega
    refine ⟨some a, cap, (List.range len).map fun r => (Z r).take (L r), by rw [hlen], ?_, by rw [hlen]; omega, ?_⟩
    · by_cases h0 : len = 0
      · subst h0; exact .inl rfl
      · have hc0 := (hrow 0 (by omega)).1
        have hp := addr_plain hc0
        have hblk := World.block_lt_of_cell? _ _ hc0
        rw [hp] at hblk
        refine .inr ⟨a.block, a.off, congrArg some hp, by simpa [Addr.add] using hblk, fun j hj => ?_⟩
        have hj' : j < len := by simpa using hj
        obtain ⟨e1, e2, _, e4, _, e6, e7⟩ := hrow j (by omega)
        rw [hp, addr_add] at e1
        have hg : ((List.range len).map fun r => (Z r).take (L r))[j] = (Z j).take (L j) := by simp
        refine ⟨A j, C j, by rw [hg, hL j hj', e1], ?_⟩
        rw [hg]
        rcases hA : A j with _ | a'
        · have h3 := e6 hA
          have h4 : (Z j).take (L j) = [] := List.eq_nil_of_length_eq_zero (by rw [hL j hj']; omega)
          rw [h4]; exact .inl rfl
        · refine holds_cells fun i hi => ?_
          have hi' : i < L j := by have := hL j hj'; rw [List.length_map] at hi; omega
          rw [(e7 a' hA).2 i (by omega)]
          simp [List.getD, show i < (Z j).length by omega]
    · intro r hr
      obtain ⟨i, hi, rfl⟩ := List.mem_map.1 hr
      rw [hL i (List.mem_range.1 hi)]
      exact hS i (List.mem_range.1 hi)
end Go.Proofs.Ytfgpenekmokdiaa
