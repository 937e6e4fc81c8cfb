/- ReachClosed returns true, if reach's functions keep what RhDev asks. -/
import Derived.Test.YtadcapeedjgeoaaRhBase
import Derived.Test.YtadcapeedjgeoaaRhDevO
namespace Go.Proofs.Ytadcapeedjgeoaa
open Go Go.RowKit Fl

theorem Try.infoBools : (Try.prog.info? 23).map (fun i => (i.zero, i.size, i.bytes)) = some (some (.slice none 0 0), 1, 24) := by kernel_rfl
/-- A list of the call's own of rows of the call's own: what the first k vertices reach. -/
def AllAt (w : World) (base : Nat) (v : Value) (g : GraphD) (s : List Bool) (k : Nat) : Prop := ∃ vs : List Value, vs.length = k ∧ w.ownsRow base 23 1 v k vs ∧ ∀ j u, vs[j]? = some u → w.ownsRow base 4 1 u g.length ((reachL g s j).map Bo)
theorem AllAt.nil (w : World) (base : Nat) (g : GraphD) (s : List Bool) : AllAt w base (.slice none 0 0) g s 0 := ⟨[], rfl, World.ownsRow_nil _ _ _ _, fun j u h => by simp at h⟩
theorem AllAt.keep {w w' : World} {base : Nat} {v : Value} {g : GraphD} {s : List Bool} {k : Nat} (h : AllAt w base v g s k) (hb : Below w.heap.size w w') : AllAt w' base v g s k := by
  obtain ⟨vs, h1, h2, h3⟩ := h
  exact ⟨vs, h1, ownsRow_below h2 hb, fun j u hu => ownsRow_below (h3 j u hu) hb⟩
theorem AllAt.at_ {w : World} {base q cap : Nat} {g : GraphD} {s : List Bool} {k j : Nat} (h : AllAt w base (.slice (some ⟨q, 0, none⟩) k cap) g s k) (hj : j < k) : ∃ X c, w.cell? ⟨q, j, none⟩ = some (.slice X g.length c) ∧ Holds w X ((reachL g s j).map Bo) := by
  obtain ⟨vs, h1, h2, h3⟩ := h
  have hjv : j < vs.length := by omega
  have hu : vs[j]? = some vs[j] := List.getElem?_eq_getElem hjv
  obtain ⟨X, c, h4, h5⟩ := own_is (h3 j _ hu)
  exact ⟨X, c, by rw [(own_get h2 hu).1, h4], h5⟩
theorem AllAt.form {w : World} {base : Nat} {v : Value} {g : GraphD} {s : List Bool} {k : Nat} (h : AllAt w base v g s k) (hk : 0 < k) : ∃ q cap, v = .slice (some ⟨q, 0, none⟩) k cap := by
  obtain ⟨vs, h1, h2, h3⟩ := h
  obtain ⟨q, cap, h4, _⟩ := own_at h2 hk
  exact ⟨q, cap, h4⟩
/-- One row more. -/
theorem AllAt.app {w w' : World} {base : Nat} {v v' u : Value} {g : GraphD} {s : List Bool} {k : Nat} {vs : List Value} (h1 : vs.length = k) (h2 : w.ownsRow base 23 1 v k vs) (h3 : ∀ j u, vs[j]? = some u → w.ownsRow base 4 1 u g.length ((reachL g s j).map Bo))
    (hu : w.ownsRow base 4 1 u g.length ((reachL g s k).map Bo)) (hg : w.grownBy w' v.ownBlock) (ho : w'.ownsRow base 23 1 v' (k + 1) (vs ++ [u])) : AllAt w' base v' g s (k + 1) := by
  have hr : ∀ q, v.ownBlock = some q → ∃ cur, w.heap[q]? = some (.cells cur 23 (0, 0)) := fun q hq => by
    rcases h2.2 with ⟨hv, _⟩ | ⟨g', cap, cur, hv, _, hh, _⟩
    · rw [hv] at hq; cases hq
    · rw [hv] at hq
      injection hq with hq
      subst hq
      exact ⟨cur, hh⟩
  refine ⟨vs ++ [u], by simp [h1], ho, fun j x hx => ?_⟩
  have key : w.ownsRow base 4 1 x g.length ((reachL g s j).map Bo) := by
    rw [List.getElem?_append] at hx
    split at hx
    · exact h3 j x hx
    · rename_i hjk
      have hjk' : j = k := by
        have := (List.getElem?_eq_some_iff.1 hx).1
        simp at this
        omega
      subst hjk'
      simp [h1] at hx
      subst hx
      exact hu
  exact own_row_other key hg hr (by decide)
theorem reach_in {g : GraphD} {s : List Bool} {w : World} {b o a k : Nat} (h : Holds w (some ⟨b, o, none⟩) ((reachL g s a).map Bo)) (hk : k < g.length) : ∃ z, w.cell? ⟨b, o + k, none⟩ = some (.bool z) ∧ (z = true ↔ PathG g s a k) := by
  obtain ⟨b', o', z, hA, h1, h2⟩ := reach_at rfl h hk
  injection hA with hA
  injection hA with e1 e2
  subst e1 e2
  exact ⟨z, h1, h2⟩
theorem marks_in {s : List Bool} {w : World} {b o k : Nat} (h : Holds w (some ⟨b, o, none⟩) (s.map Bo)) (hk : k < s.length) : w.cell? ⟨b, o + k, none⟩ = some (.bool (atB s k)) := by
  obtain ⟨b', o', hA, h1⟩ := marks_at h hk
  injection hA with hA
  injection hA with e1 e2
  subst e1 e2
  exact h1
theorem reach_self {g : GraphD} {s : List Bool} {v : Nat} (hv : v < g.length) : PathG g s v v ↔ atB s v = false := ⟨fun h => h.right.2, fun h => .refl hv h⟩
set_option maxRecDepth 100000 in
set_option maxHeartbeats 8000000 in
theorem reachClosed_c (hF : DevFrom) (hFO : DevFromO) (hM : DevMutual) (hV : DevValid) (hR : DevReverse) (hW : DevWithout) (C : Option Addr) (k : Nat) (zs : List Int) (w : World) (hz : IntsAt w w.heap.size C zs) (hzl : zs.length ≤ maxLen) :
    Calls Try.prog 5 #[.slice C zs.length k] w fun e w' => e = .returned (.bool true) ∧ Below w.heap.size w w' := by
  have HFO := Lib.hid hFO
  clear hFO
  have CK := Lib.hid (known4_c hF hM hV w)
  have HF := Lib.hid hF
  have HM := Lib.hid hM
  have HR := Lib.hid hR
  have HW := Lib.hid hW
  have HZ := Lib.hid hz
  have HL := Lib.hid hzl
  clear hF hM hV hR hW hz hzl
  go_enter Try.func5, Try.ntmps5
  go_wp2_with fail
  refine CK.out.mono ?_
  rintro e w1 ⟨rfl, hb1⟩
  have ht := tape_new (c := k) HZ.out (Nat.le_refl _) hb1 HL.out
  have hb2 : Below w.heap.size w (w1.alloc (.cells #[.slice C zs.length k, .int .i64 0] 28)) := hb1.alloc hb1.size _
  have HT2 := Lib.hid ht
  have hgB : w.heap.size ≤ w1.heap.size := hb1.size
  have HB2 := Lib.hid hb2
  have hsz2 : w1.heap.size < (w1.alloc (.cells #[.slice C zs.length k, .int .i64 0] 28)).heap.size := by simp
  clear hb1 ht hb2 CK HZ HL
  go_wp2_with fail
  refine (graph_c w.heap.size w1.heap.size _ 8 _ HT2.out (by omega) (by omega) hsz2).mono ?_
  rintro e w3 ⟨gv, g, rfl, hgl, hok, hown3, ht3, hst3⟩
  obtain ⟨A, c, rfl, _⟩ := hown3.at_
  have HV := Lib.hid (hok.valid (by omega))
  have HT3 := Lib.hid ht3
  have HO3 := Lib.hid hown3
  have HB3 := Lib.hid (HB2.out.trans (hst3.below HB2.out.size hgB))
  have hsz3 := Nat.lt_of_lt_of_le hsz2 hst3.size
  generalize w1.alloc (.cells #[.slice C zs.length k, .int .i64 0] 28) = w2 at *
  clear hok ht3 hown3 hst3 HT2 HB2
  go_wp2_with fail
  refine (shut_c w.heap.size w1.heap.size _ g.length w3 HT3.out (by omega) (by omega) hsz3).mono ?_
  rintro e w4 ⟨sv, s, rfl, hsl4, hos4, ht4, hst4⟩
  obtain ⟨B, d, rfl, hs4⟩ := own_is hos4
  have HSL := Lib.hid hsl4
  have HT4 := Lib.hid ht4
  have HO4 := Lib.hid (HO3.out.but hst4.grown hsz2)
  have HS4 := Lib.hid hos4
  have HB4 := Lib.hid (HB3.out.trans (hst4.below HB3.out.size hgB))
  have hsz4 := Nat.lt_of_lt_of_le hsz3 hst4.size
  clear HT3 HO3 HB3 hsl4 ht4 hos4 hs4 hst4
  have HRg : Hid (RowsAt w4 A g) := Lib.hid (by
    obtain ⟨A2, c2, h1, h2⟩ := HO4.out.at_
    injection h1 with h1
    subst h1
    exact h2)
  have HSs : Hid (Holds w4 B (s.map Bo)) := Lib.hid (by
    obtain ⟨A2, c2, h1, h2⟩ := own_is HS4.out
    injection h1 with h1
    subst h1
    exact h2)
  clear HM HR HW hgB hsz4 HT4 hsz3 hsz2
  obtain ⟨base, hbase⟩ : ∃ base, base = w4.heap.size := ⟨_, rfl⟩
  have HA0 := Lib.hid (AllAt.nil w4 base g s)
  have hb4 : base ≤ w4.heap.size := by omega
  have hb5 : w4.heap.size ≤ base := by omega
  clear hbase HO4 HS4
  go_wp2
  go_loopw [6, 7] (fun al i wr => ∃ u : Nat, i = .int .i64 u ∧ u ≤ g.length ∧ Hid (AllAt wr base al g s u) ∧ Hid (Below w4.heap.size w4 wr)) (fun _ i _ => g.length - (intOf i).toNat)
  case atStart => exact ⟨0, rfl, Nat.zero_le _, HA0, Lib.hid (Below.refl _ _)⟩
  case round =>
    clear HA0
    obtain ⟨u, rfl, hu, HAl, HWr⟩ := hrel
    by_cases hlt : u < g.length
    · go_wp2_with fail
      refine (fromO_ok HFO.out (v := u) (HRg.out.keep HWr.out) (HSs.out.keep HWr.out) HV.out rfl HSL.out hlt).mono ?_
      rintro e w8 ⟨x, rfl, hox, hb8⟩
      obtain ⟨gx, cx, rfl, hgx, _⟩ := own_at hox (by omega)
      have hw8s := HWr.out.size
      have HW8 := Lib.hid (HWr.out.trans (hb8.mono HWr.out.size))
      have HAl8 := Lib.hid (HAl.out.keep hb8)
      have HOx : Hid (w8.ownsRow base 4 1 (.slice (some ⟨gx, 0, none⟩) g.length cx) g.length ((reachL g s u).map Bo)) := Lib.hid (own_low hox (by omega))
      have hs8 : base ≤ w8.heap.size := by have := hb8.size; omega
      obtain ⟨b1, o1, p, hX, e1, hp⟩ := reach_at rfl (ownsRow_holds hox) hlt
      injection hX with hX
      injection hX with hX1 hX2
      subst hX1 hX2
      rw [Nat.zero_add] at e1
      obtain ⟨b2, o2, rfl, e2⟩ := marks_at (HSs.out.keep HW8.out) (show u < s.length by have := HSL.out; omega)
      have hpq : p = !atB s u := by
        rw [Bool.eq_iff_iff, hp, reach_self hlt]
        rcases atB s u with _ | _ <;> simp
      subst hpq
      clear hox hb8 hp HAl HWr hgx hw8s
      have hcase : atB s u = true ∨ atB s u = false := by rcases atB s u with _ | _ <;> simp
      obtain ⟨sv, hsv⟩ : ∃ sv, sv = atB s u := ⟨_, rfl⟩
      rw [← hsv] at e1 e2 hcase
      clear hsv
      clear hcase
      rcases sv with _ | _
      all_goals
        go_wp2_with fail
        go_quiet (fail)
        have HW9 := Lib.hid (below_drewN HW8.out nq)
        have HAl9 := Lib.hid (HAl8.out.keep (below_drewN (Below.refl _ _) nq))
        have HOx9 := Lib.hid (ownsRow_below HOx.out (below_drewN (Below.refl _ _) nq))
        have hs9 : base ≤ (w8.drewN nq).heap.size := hs8
        clear HW8 HAl8 HOx hs8 e1 e2
        generalize w8.drewN nq = w9 at *
        obtain ⟨vs, hvl, hvo, hvr⟩ := HAl9.out
        have HVO := Lib.hid (fun ob => hvo.alloc ob)
        have HVR := Lib.hid (fun ob j x hx => (hvr j x hx).alloc ob)
        have HOxA := Lib.hid (fun ob => HOx9.out.alloc ob)
        have HVL := Lib.hid hvl
        have HBa := Lib.hid (own_base hvo)
        clear hvl hvo hvr HAl9 HOx9
        go_wp2_with (at_builtin; refine app_any _ rfl _ _ 45 23 (.slice none 0 0) 24 Try.underlying45 Try.infoBools rfl (by decide) rfl base _ u vs rfl (HVO.out _) _ (.slice (some ⟨gx, 0, none⟩) g.length cx) rfl (by rw [cell_of_row _ _ 0 _ _ _ (heap_alloc_new w9 _)]; rfl) rfl (by omega) (by simp; omega) ?_)
        intro v' w' hown hgrow
        have HAl2 := Lib.hid (AllAt.app HVL.out (HVO.out _) (HVR.out _) (HOxA.out _) hgrow hown)
        have HW2 : Hid (Below w4.heap.size w4 w') := Lib.hid (HW9.out.trans (((Below.refl w4.heap.size w9).alloc HW9.out.size _).grown hgrow (by have := HW9.out.size; simp; omega) (fun k hk => by have := HBa.out k hk; omega)))
        clear hown hgrow HVO HVR HOxA HVL HBa HW9 hs9
        go_wp2
        go_roundw
        case rel => exact ⟨u + 1, by go_num, by omega, HAl2, HW2⟩
        case measure => simp [intOf]; omega
    · obtain rfl : u = g.length := by omega
      have HB := Lib.hid (HB4.out.trans (HWr.out.mono HB4.out.size))
      have HG := Lib.hid (HRg.out.keep HWr.out)
      have HS := Lib.hid (HSs.out.keep HWr.out)
      clear HWr HB4 HRg HSs hb4 hb5
      go_wp2
      go_loop [10] (fun i => ∃ v : Nat, i = .int .i64 v ∧ v ≤ g.length) (fun i => g.length - (intOf i).toNat)
      case atStart => exact ⟨0, rfl, Nat.zero_le _⟩
      case round =>
        obtain ⟨v, rfl, hv⟩ := hrel
        by_cases hvt : v < g.length
        · obtain ⟨q, cap, rfl⟩ := HAl.out.form (by omega)
          obtain ⟨bg, og, A2, c2, rfl, eg, hg1⟩ := HG.out.one hvt
          have hvs : v < s.length := by have := HSL.out; omega
          obtain ⟨bs, os, rfl, es⟩ := marks_at HS.out hvs
          obtain ⟨X, cx, ea, hX⟩ := HAl.out.at_ hvt
          obtain ⟨bx, ox, _, rfl, _, _⟩ := reach_at rfl hX hvt
          have HX := Lib.hid hX
          have HR1 := Lib.hid hg1
          have hr24 := validG_short HV.out _ (List.getElem_mem hvt)
          have HRow := Lib.hid (rowG_at hvt)
          have HIn := Lib.hid (rowOk_row HV.out hvt)
          rw [HRow.out] at HIn
          clear hX hg1
          generalize g[v] = r at *
          obtain ⟨sv, hsv⟩ : ∃ sv, Hid (sv = atB s v) := ⟨_, Lib.hid rfl⟩
          rw [← hsv.out] at es
          go_wp2
          go_loop [11] (fun i => ∃ m : Nat, i = .int .i64 m ∧ m ≤ r.length) (fun i => r.length - (intOf i).toNat)
          case atStart => exact ⟨0, rfl, Nat.zero_le _⟩
          case round =>
            obtain ⟨m, rfl, hm⟩ := hrel
            by_cases hmt : m < r.length
            · obtain ⟨br, or_, rfl, e2⟩ := HR1.out.iv hmt
              obtain ⟨y0, y1, y2⟩ := HIn.out r[m] (List.getElem_mem hmt)
              obtain ⟨y, hy⟩ := Int.eq_ofNat_of_zero_le y0
              have hedge : EdgeG g v y := by unfold EdgeG; rw [HRow.out, ← hy]; exact List.getElem_mem hmt
              rw [hy] at e2 y1
              have hyn : y < g.length := by omega
              have hys : y < s.length := by have := HSL.out; omega
              have e3 := marks_in HS.out hys
              obtain ⟨p, e4, hp⟩ := reach_in HX.out hyn
              have hcase : sv = true ∨ sv = false ∧ atB s y = true ∨ sv = false ∧ atB s y = false ∧ p = true := by
                rcases h1 : sv with _ | _
                · rcases h2 : atB s y with _ | _
                  · have h3 : atB s v = false := by rw [← hsv.out, h1]
                    exact .inr (.inr ⟨rfl, rfl, hp.2 (.step (.refl hvt h3) hedge hyn h2)⟩)
                  · exact .inr (.inl ⟨rfl, rfl⟩)
                · exact .inl rfl
              clear hp hedge y0 y1 y2 hy
              generalize atB s y = sy at *
              clear hsv
              rcases hcase with rfl | ⟨rfl, rfl⟩ | ⟨rfl, rfl, rfl⟩
              all_goals
                go_wp2
                go_round
                case rel => exact ⟨m + 1, by go_num, by omega⟩
                case measure => simp [intOf]; omega
            · go_wp2
              go_loop [13] (fun i => ∃ z : Nat, i = .int .i64 z ∧ z ≤ g.length) (fun i => g.length - (intOf i).toNat)
              case atStart => exact ⟨0, rfl, Nat.zero_le _⟩
              case round =>
                obtain ⟨z, rfl, hz⟩ := hrel
                by_cases hzt : z < g.length
                · have hzs : z < s.length := by have := HSL.out; omega
                  have e3 := marks_in HS.out hzs
                  obtain ⟨p, e4, hp⟩ := reach_in HX.out hzt
                  obtain ⟨Y, cy, eb, hY⟩ := HAl.out.at_ hzt
                  obtain ⟨by_, oy, _, rfl, _, _⟩ := reach_at rfl hY hzt
                  have HY := Lib.hid hY
                  have hcase : p = false ∨ p = true ∧ sv = false ∧ atB s z = false := by
                    rcases h1 : p with _ | _
                    · exact .inl rfl
                    · have h2 := hp.1 h1
                      exact .inr ⟨rfl, by rw [hsv.out]; exact h2.left.2, h2.right.2⟩
                  have HP := Lib.hid hp
                  clear hY hp hsv
                  generalize atB s z = sz at *
                  rcases hcase with rfl | ⟨rfl, rfl, rfl⟩
                  · go_wp2
                    go_loop [14] (fun i => ∃ x : Nat, i = .int .i64 x ∧ x ≤ g.length) (fun i => g.length - (intOf i).toNat)
                    case atStart => exact ⟨0, rfl, Nat.zero_le _⟩
                    case round =>
                      obtain ⟨x, rfl, hx⟩ := hrel
                      by_cases hxt : x < g.length
                      · go_wp2
                        go_round
                        case rel => exact ⟨x + 1, by go_num, by omega⟩
                        case measure => simp [intOf]; omega
                      · go_wp2
                        go_round
                        case rel => exact ⟨z + 1, by go_num, by omega⟩
                        case measure => simp [intOf]; omega
                  · go_wp2
                    go_loop [14] (fun i => ∃ x : Nat, i = .int .i64 x ∧ x ≤ g.length) (fun i => g.length - (intOf i).toNat)
                    case atStart => exact ⟨0, rfl, Nat.zero_le _⟩
                    case round =>
                      obtain ⟨x, rfl, hx⟩ := hrel
                      by_cases hxt : x < g.length
                      · obtain ⟨p1, e5, hp1⟩ := reach_in HY.out hxt
                        obtain ⟨p2, e6, hp2⟩ := reach_in HX.out hxt
                        have hcase : p1 = false ∨ p1 = true ∧ p2 = true := by
                          rcases h1 : p1 with _ | _
                          · exact .inl rfl
                          · exact .inr ⟨rfl, hp2.2 ((HP.out.1 (by first | trivial | rfl)).trans (hp1.1 h1))⟩
                        clear hp1 hp2
                        rcases hcase with rfl | ⟨rfl, rfl⟩
                        all_goals
                          go_wp2
                          go_round
                          case rel => exact ⟨x + 1, by go_num, by omega⟩
                          case measure => simp [intOf]; omega
                      · go_wp2
                        go_round
                        case rel => exact ⟨z + 1, by go_num, by omega⟩
                        case measure => simp [intOf]; omega
                · go_wp2
                  go_round
                  case rel => exact ⟨v + 1, by go_num, by omega⟩
                  case measure => simp [intOf]; omega
        · go_wp2
          go_ret
          exact ⟨rfl, HB.out⟩
end Go.Proofs.Ytadcapeedjgeoaa
