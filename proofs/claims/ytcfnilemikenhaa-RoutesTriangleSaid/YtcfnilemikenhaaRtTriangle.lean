/- RoutesTriangle returns true, if routes' functions keep what RtBase asks. -/
import Derived.Test.YtcfnilemikenhaaRtBase
namespace Go.Proofs.Ytcfnilemikenhaa
open Go Go.RowKit Fl

theorem dist_el {g : GraphD} {s : List Bool} {goal v : Nat} (hv : v < (distF g s goal).length) : (distF g s goal)[v] = dAt (distF g s goal) v := by
  unfold dAt
  rw [List.getD_eq_getElem?_getD, List.getElem?_eq_getElem hv]
  rfl
theorem dist_top {g : GraphD} {s : List Bool} {goal : Nat} (hg : validG g = true) (hgo : goal < g.length) (y : Nat) : dAt (distF g s goal) y ≤ 24 := by
  have hl := validG_len hg
  rcases hs : atB s goal with _ | _
  · have := ((distF_inv hg hgo hs).low y).2
    show (distF g s goal).getD y (-1) ≤ 24
    omega
  · show (distF g s goal).getD y (-1) ≤ 24
    rw [distF_shut hs, List.getD_eq_getElem?_getD, List.getElem?_replicate]
    split <;> simp
theorem tri_le {g : GraphD} {s : List Bool} {goal v y : Nat} (hg : validG g = true) (hgo : goal < g.length) (he : EdgeG g v y) (hv : v < g.length) (hs : atB s v = false) (hy : y < g.length) (h0 : 0 ≤ dAt (distF g s goal) y) : 0 ≤ dAt (distF g s goal) v ∧ dAt (distF g s goal) v ≤ dAt (distF g s goal) y + 1 := by
  obtain ⟨k, hk⟩ := Int.eq_ofNat_of_zero_le h0
  have h := dist_le hg (Rn.succ hv hs he (dist_is hg hgo hy hk))
  exact ⟨h.1, by omega⟩
theorem tri_tight {g : GraphD} {s : List Bool} {goal v : Nat} (hg : validG g = true) (hgo : goal < g.length) (hv : v < g.length) : v = goal ∨ dAt (distF g s goal) v < 0 ∨ ∃ j, j < (rowG g v).length ∧ atB s v = false ∧ 0 ≤ atI (distF g s goal) ((rowG g v).getD j 0) ∧ dAt (distF g s goal) v = atI (distF g s goal) ((rowG g v).getD j 0) + 1 := by
  by_cases hn : dAt (distF g s goal) v < 0
  · exact .inr (.inl hn)
  · obtain ⟨k, hk⟩ := Int.eq_ofNat_of_zero_le (show 0 ≤ dAt (distF g s goal) v by omega)
    have hr := dist_is hg hgo hv hk
    rcases k with _ | k
    · cases hr with
      | zero _ _ => exact .inl rfl
    · cases hr with
      | @succ _ _ y _ h1 h2 h3 h4 =>
        have hd := dist_le hg h4
        have ht := tri_le hg hgo h3 hv h2 h4.left.1 hd.1
        obtain ⟨j, hj, e⟩ := List.mem_iff_getElem.1 (show (y : Int) ∈ rowG g v from h3)
        have hat : atI (distF g s goal) ((rowG g v).getD j 0) = dAt (distF g s goal) y := by
          rw [List.getD_eq_getElem?_getD, List.getElem?_eq_getElem hj]
          show atI (distF g s goal) (rowG g v)[j] = _
          rw [e]
          unfold atI
          rw [Int.toNat_natCast]
        exact .inr (.inr ⟨j, hj, h2, by rw [hat]; exact hd.1, by rw [hat]; omega⟩)
theorem dist_goal {g : GraphD} {s : List Bool} {goal : Nat} (hg : validG g = true) (hgo : goal < g.length) : (atB s goal = true ∧ dAt (distF g s goal) goal = -1) ∨ (atB s goal = false ∧ dAt (distF g s goal) goal = 0) := by
  rcases hs : atB s goal with _ | _
  · have := dist_le hg (Rn.zero hgo hs)
    exact .inr ⟨rfl, by omega⟩
  · refine .inl ⟨rfl, ?_⟩
    show (distF g s goal).getD goal (-1) = -1
    rw [distF_shut hs, List.getD_eq_getElem?_getD, List.getElem?_replicate]
    split <;> simp
/-- What makes the triangle tight, over the first vertices of a row. -/
def tightP (sv : Bool) (dv : Int) (eq : Prop) (r D : List Int) (m : Nat) : Prop := eq ∨ dv < 0 ∨ ∃ j, j < m ∧ sv = false ∧ 0 ≤ atI D (r.getD j 0) ∧ dv = atI D (r.getD j 0) + 1
theorem tightP_zero {sv : Bool} {dv : Int} {eq : Prop} {r D : List Int} : tightP sv dv eq r D 0 ↔ eq ∨ dv < 0 := by
  unfold tightP
  constructor
  · rintro (h | h | ⟨j, hj, _⟩)
    · exact .inl h
    · exact .inr h
    · omega
  · rintro (h | h)
    · exact .inl h
    · exact .inr (.inl h)
theorem tightP_succ {sv : Bool} {dv : Int} {eq : Prop} {r D : List Int} {m : Nat} : tightP sv dv eq r D (m + 1) ↔ tightP sv dv eq r D m ∨ (sv = false ∧ 0 ≤ atI D (r.getD m 0) ∧ dv = atI D (r.getD m 0) + 1) := by
  unfold tightP
  constructor
  · rintro (h | h | ⟨j, hj, h⟩)
    · exact .inl (.inl h)
    · exact .inl (.inr (.inl h))
    · by_cases hjm : j = m
      · subst hjm; exact .inr h
      · exact .inl (.inr (.inr ⟨j, by omega, h⟩))
  · rintro ((h | h | ⟨j, hj, h⟩) | h)
    · exact .inl h
    · exact .inr (.inl h)
    · exact .inr (.inr ⟨j, by omega, h⟩)
    · exact .inr (.inr ⟨m, by omega, h⟩)
set_option maxRecDepth 100000 in
set_option maxHeartbeats 8000000 in
theorem routesTriangle_c (hD : DevDist) (hH : DevHops) (hP : DevPath) (hT : DevTable) (C : Option Addr) (k : Nat) (zs : List Int) (w : World) (hz : IntsAt w w.heap.size C zs) (hzl : zs.length ≤ maxLen) :
    Calls Try.prog 5 #[.slice C zs.length k] w fun e w' => e = .returned (.bool true) ∧ Below w.heap.size w w' := by
  have CK := Lib.hid (known7_c hD hH hP hT w)
  have HDi := Lib.hid hD
  have HHo := Lib.hid hH
  have HPa := Lib.hid hP
  have HZ := Lib.hid hz
  have HL := Lib.hid hzl
  clear hD hH hP hT hz hzl
  go_enter Try.func5, Try.ntmps5
  go_wp2_with fail
  refine CK.out.mono ?_
  rintro e w1 ⟨rfl, hb1⟩
  have ht := tape_new (c := k) HZ.out (Nat.le_refl _) hb1 HL.out
  have hb2 : Below w.heap.size w (w1.alloc (.cells #[.slice C zs.length k, .int .i64 0] 29)) := hb1.alloc hb1.size _
  have HT2 := Lib.hid ht
  have hgB : w.heap.size ≤ w1.heap.size := hb1.size
  have HB2 := Lib.hid hb2
  have hsz2 : w1.heap.size < (w1.alloc (.cells #[.slice C zs.length k, .int .i64 0] 29)).heap.size := by simp
  clear hb1 ht hb2 CK HZ HL
  go_wp2_with fail
  refine (graph_c w.heap.size w1.heap.size _ 9 _ HT2.out (by omega) (by omega) hsz2).mono ?_
  rintro e w3 ⟨gv, g, rfl, hgl, hok, hown3, ht3, hst3⟩
  obtain ⟨A, c, rfl, _⟩ := hown3.at_
  have HV := Lib.hid (hok.valid (by omega))
  have HT3 := Lib.hid ht3
  have HO3 := Lib.hid hown3
  have HB3 := Lib.hid (HB2.out.trans (hst3.below HB2.out.size hgB))
  have hsz3 := Nat.lt_of_lt_of_le hsz2 hst3.size
  generalize w1.alloc (.cells #[.slice C zs.length k, .int .i64 0] 29) = w2 at *
  clear hok ht3 hown3 hst3 HT2 HB2
  go_wp2_with fail
  refine (shut_c w.heap.size w1.heap.size _ g.length w3 HT3.out (by omega) (by omega) hsz3).mono ?_
  rintro e w4 ⟨sv, s, rfl, hsl4, hos4, ht4, hst4⟩
  obtain ⟨B, d, rfl, hs4⟩ := own_is hos4
  have HSL := Lib.hid hsl4
  have HT4 := Lib.hid ht4
  have HO4 := Lib.hid (HO3.out.but hst4.grown hsz2)
  have HS4 := Lib.hid hos4
  have HB4 := Lib.hid (HB3.out.trans (hst4.below HB3.out.size hgB))
  have hsz4 := Nat.lt_of_lt_of_le hsz3 hst4.size
  clear HT3 HO3 HB3 hsl4 ht4 hos4 hs4 hst4
  have HRg : Hid (RowsAt w4 A g) := Lib.hid (by
    obtain ⟨A2, c2, h1, h2⟩ := HO4.out.at_
    injection h1 with h1
    subst h1
    exact h2)
  have HSs : Hid (Holds w4 B (s.map Bo)) := Lib.hid (by
    obtain ⟨A2, c2, h1, h2⟩ := own_is HS4.out
    injection h1 with h1
    subst h1
    exact h2)
  clear HHo HPa HT4 HO4 HS4 hgB hsz4
  go_wp2
  go_loopw [6] (fun i wr => ∃ u : Nat, i = .int .i64 u ∧ u ≤ g.length ∧ Hid (Below w4.heap.size w4 wr)) (fun i _ => g.length - (intOf i).toNat)
  case atStart => exact ⟨0, rfl, Nat.zero_le _, Lib.hid (Below.refl _ _)⟩
  case round =>
    obtain ⟨goal, rfl, hu, HW⟩ := hrel
    by_cases hlt : goal < g.length
    · go_wp2_with fail
      refine (dist_ok HDi.out (v := goal) (HRg.out.keep HW.out) (HSs.out.keep HW.out) HV.out rfl HSL.out hlt).mono ?_
      rintro e w9 ⟨X, cx, rfl, hx9, hb9⟩
      have HW9 := Lib.hid (HW.out.trans (hb9.mono HW.out.size))
      have HX9 := Lib.hid hx9
      have HTop := Lib.hid (fun y => dist_top (s := s) HV.out hlt y)
      have HGoal := Lib.hid (dist_goal (s := s) HV.out hlt)
      have HLe := Lib.hid (fun v y (he : EdgeG g v y) => tri_le (s := s) HV.out hlt he)
      have HTi := Lib.hid (fun v => tri_tight (s := s) (v := v) HV.out hlt)
      have hDl := distF_length g s goal
      clear hb9 hx9 HW
      obtain ⟨Dl, HDl⟩ : ∃ Dl, Hid (Dl = distF g s goal) := ⟨_, Lib.hid rfl⟩
      rw [← HDl.out] at HX9 HTop HGoal HLe HTi hDl
      clear HDl
      have HEl : Hid (∀ v (h : v < Dl.length), Dl[v] = dAt Dl v) := Lib.hid (fun v h => by unfold dAt; rw [List.getD_eq_getElem?_getD, List.getElem?_eq_getElem h]; rfl)
      have hgl2 : goal < Dl.length := by omega
      obtain ⟨bx, ox, rfl, e1⟩ := HX9.out.iv hgl2
      rw [HEl.out] at e1
      obtain ⟨bs, os, hB, e2⟩ := marks_at (HSs.out.keep HW9.out) (show goal < s.length by have := HSL.out; omega)
      subst hB
      have hgc := HGoal.out
      have HB9 := Lib.hid (HB4.out.trans (HW9.out.mono HB4.out.size))
      clear HGoal
      generalize atB s goal = sg at *
      generalize dAt Dl goal = dg at *
      have hd0 : (dg != 0) = sg := by
        rcases hgc with ⟨h1, h2⟩ | ⟨h1, h2⟩
        · rw [h1, h2]; rfl
        · rw [h1, h2]; rfl
      clear hgc
      go_wp2_with fail
      go_quiet (fail)
      have HWa := Lib.hid (below_drewN (Below.refl w9.heap.size w9) nq)
      clear e1 e2 hd0
      generalize w9.drewN nq = wa at *
      go_wp2
      go_loopw [9] (fun i wr => ∃ v : Nat, i = .int .i64 v ∧ v ≤ g.length ∧ Hid (Below w9.heap.size w9 wr)) (fun i _ => g.length - (intOf i).toNat)
      case atStart => exact ⟨0, rfl, Nat.zero_le _, HWa⟩
      case round =>
        clear HWa
        obtain ⟨v, rfl, hv, HWr⟩ := hrel
        by_cases hvt : v < g.length
        · have hvD : v < Dl.length := by omega
          have e1 := ints_in (HX9.out.keep HWr.out) hvD
          rw [HEl.out] at e1
          have HTv := Lib.hid (HTi.out v hvt)
          have HLv := Lib.hid (fun y he => HLe.out v y he hvt)
          have hrow : rowG g v = g[v] := rowG_at hvt
          have HRk := Lib.hid (rowOk_row HV.out hvt)
          have HEdge : Hid (∀ y : Nat, (y : Int) ∈ g[v] → EdgeG g v y) := Lib.hid (fun y h => by rw [← hrow] at h; exact h)
          have hr24 : g[v].length ≤ 24 := by have := validG_short HV.out _ (List.getElem_mem hvt); exact this
          have HRr : Hid (∀ W, Below w9.heap.size w9 W → ∃ b o A1 c1, A = some ⟨b, o, none⟩ ∧ W.cell? ⟨b, o + v, none⟩ = some (.slice A1 g[v].length c1) ∧ Holds W A1 (g[v].map Iv)) := Lib.hid (fun W hW => ((HRg.out.keep HW9.out).keep hW).one hvt)
          rw [hrow] at HRk HTv
          have hdv := HTop.out v
          have HDV : Hid (∀ W, Below w9.heap.size w9 W → W.cell? ⟨bx, ox + v, none⟩ = some (.int .i64 (dAt Dl v))) := Lib.hid (fun W hW => by rw [← HEl.out v hvD]; exact ints_in (HX9.out.keep hW) hvD)
          clear hrow
          generalize hgr : g[v] = r at *
          clear hgr
          generalize hdvn : dAt Dl v = dv at *
          clear hdvn
          obtain ⟨t0, ht0⟩ : ∃ t0 : Bool, t0 = (((v : Int) == (goal : Int)) || decide (dv < 0)) := ⟨_, rfl⟩
          have HT0 : Hid (t0 = true ↔ tightP (atB s v) dv (v = goal) r Dl 0) := Lib.hid (by
            rw [tightP_zero, ht0, Bool.or_eq_true, beq_iff_eq, decide_eq_true_eq]
            omega)
          have hcase : (((v : Int) == (goal : Int)) = true ∧ t0 = true) ∨ (((v : Int) == (goal : Int)) = false ∧ decide (dv < 0) = t0) := by
            rw [ht0]
            rcases ((v : Int) == (goal : Int)) with _ | _ <;> simp
          clear ht0
          rcases hcase with ⟨h1, rfl⟩ | ⟨h1, h2⟩
          all_goals
            go_wp2
            try clear h2
            go_loopw [10, 11] (fun bv i wr => ∃ (m : Nat) (b : Bool), bv = .bool b ∧ i = .int .i64 m ∧ m ≤ r.length ∧ Hid (b = true ↔ tightP (atB s v) dv (v = goal) r Dl m) ∧ Hid (Below w9.heap.size w9 wr)) (fun _ i _ => r.length - (intOf i).toNat)
            case atStart => exact ⟨0, _, rfl, rfl, Nat.zero_le _, Lib.hid (by first | exact HT0.out | simpa using HT0.out), HWr⟩
            case round =>
              clear e1 HT0 HWr h1
              obtain ⟨m, b, rfl, rfl, hm, HTb, HWi⟩ := hrel
              obtain ⟨bq, oq, A1, c1, rfl, e4, h4⟩ := HRr.out _ HWi.out
              have e1 := HDV.out _ HWi.out
              by_cases hmt : m < r.length
              · obtain ⟨h1, h2, _⟩ := HRk.out r[m] (List.getElem_mem hmt)
                obtain ⟨y, hy⟩ := Int.eq_ofNat_of_zero_le h1
                rw [hy] at h2
                have hyl : y < Dl.length := by omega
                have hLy := HLv.out y (HEdge.out y (by rw [← hy]; exact List.getElem_mem hmt))
                obtain ⟨br, or_, rfl, e5⟩ := h4.iv hmt
                rw [hy] at e5
                have e6 := ints_in (HX9.out.keep HWi.out) hyl
                obtain ⟨bs', os', hB', e7⟩ := marks_at ((HSs.out.keep HW9.out).keep HWi.out) (show v < s.length by have := HSL.out; omega)
                injection hB' with hB'
                injection hB' with hB1 hB2
                subst hB1 hB2
                have hat : atI Dl (r.getD m 0) = Dl[y] := by
                  rw [List.getD_eq_getElem?_getD, List.getElem?_eq_getElem hmt]
                  show atI Dl r[m] = Dl[y]
                  rw [hy]
                  unfold atI
                  rw [Int.toNat_natCast, List.getD_eq_getElem?_getD, List.getElem?_eq_getElem hyl]
                  rfl
                have hx24 := HTop.out y
                have HSt : Hid (tightP (atB s v) dv (v = goal) r Dl (m + 1) ↔ b = true ∨ (atB s v = false ∧ 0 ≤ Dl[y] ∧ dv = Dl[y] + 1)) := Lib.hid (by rw [tightP_succ, hat, HTb.out])
                rw [← HEl.out y hyl] at hx24 hLy
                clear HTb hat h1 h4
                generalize Dl[y] = x at *
                generalize atB s v = sv at *
                have hcase : sv = true ∨ (sv = false ∧ decide (x < 0) = true) ∨ (sv = false ∧ 0 ≤ x ∧ 0 ≤ dv ∧ dv ≤ x + 1) := by
                  rcases sv with _ | _
                  · by_cases h0 : x < 0
                    · exact .inr (.inl ⟨rfl, by simpa using h0⟩)
                    · have := hLy rfl (by omega) (by omega)
                      exact .inr (.inr ⟨rfl, by omega, this.1, this.2⟩)
                  · exact .inl rfl
                clear hLy
                rcases hcase with rfl | ⟨rfl, h1⟩ | ⟨rfl, h1, h3, h5⟩
                · have HN : Hid (b = true ↔ tightP true dv (v = goal) r Dl (m + 1)) := Lib.hid (by rw [HSt.out]; simp)
                  go_wp2
                  go_roundw
                  case rel => exact ⟨m + 1, b, rfl, by go_num, by omega, HN, HWi⟩
                  case measure => simp [intOf]; omega
                · have HN : Hid (b = true ↔ tightP false dv (v = goal) r Dl (m + 1)) := Lib.hid (by
                    rw [HSt.out]
                    rw [decide_eq_true_eq] at h1
                    constructor
                    · exact .inl
                    · rintro (h | h)
                      · exact h
                      · omega)
                  go_wp2
                  go_roundw
                  case rel => exact ⟨m + 1, b, rfl, by go_num, by omega, HN, HWi⟩
                  case measure => simp [intOf]; omega
                · obtain ⟨xn, rfl⟩ := Int.eq_ofNat_of_zero_le h1
                  obtain ⟨dn, rfl⟩ := Int.eq_ofNat_of_zero_le h3
                  have HN : Hid ((b || ((dn : Int) == (xn : Int) + 1)) = true ↔ tightP false dn (v = goal) r Dl (m + 1)) := Lib.hid (by
                    rw [HSt.out, Bool.or_eq_true, beq_iff_eq]
                    constructor
                    · rintro (h | h)
                      · exact .inl h
                      · exact .inr ⟨rfl, h1, h⟩
                    · rintro (h | h)
                      · exact .inl h
                      · exact .inr h.2.2)
                  have hcase : b = true ∨ (b = false ∧ ((dn : Int) == (xn : Int) + 1) = true) ∨ (b = false ∧ ((dn : Int) == (xn : Int) + 1) = false) := by
                    rcases b with _ | _ <;> rcases ((dn : Int) == (xn : Int) + 1) with _ | _ <;> simp
                  have hgt : decide ((xn : Int) + 1 < (dn : Int)) = false := by simp; omega
                  have hw1 : IntKind.i64.wrap ((xn : Int) + 1) = (xn : Int) + 1 := IntWalk.i64_in _ ⟨by omega, by omega⟩
                  have hgtW : decide (IntKind.i64.wrap ((xn : Int) + 1) < (dn : Int)) = false := by rw [hw1]; exact hgt
                  have hlt0 : decide ((dn : Int) < 0) = false := by simp
                  clear HSt
                  rcases hcase with rfl | ⟨rfl, he⟩ | ⟨rfl, he⟩
                  all_goals
                    go_wp2_with fail
                    go_quiet (fail)
                    have HW1 := Lib.hid (below_drewN HWi.out nq)
                    have e1' := HDV.out _ HW1.out
                    have e6' := ((below_drewN (Below.refl wr.heap.size wr) nq).cell (World.block_lt_of_cell? _ _ e6)).trans e6
                    clear e1 e4 e5 e6 e7 HWi hgt hlt0
                    generalize wr.drewN nq = wb at *
                    go_wp2_with fail
                    go_quiet (fail)
                    have HW2 := Lib.hid (below_drewN HW1.out nq)
                    clear e1' e6' HW1
                    go_wp2
                    go_roundw
                    case rel => exact ⟨m + 1, _, rfl, by go_num, by omega, by (first | (rw [he] at HN; exact HN) | exact HN), HW2⟩
                    case measure => simp [intOf]; omega
              · obtain rfl : m = r.length := by omega
                have hb : b = true := HTb.out.2 (by
                  rcases HTv.out with h | h | ⟨j, hj, h⟩
                  · exact .inl h
                  · exact .inr (.inl h)
                  · exact .inr (.inr ⟨j, hj, h⟩))
                subst hb
                clear HTb h4 e1
                go_wp2
                go_roundw
                case rel => exact ⟨v + 1, by go_num, by omega, HWi⟩
                case measure => simp [intOf]; omega
        · have HWn := Lib.hid (HW9.out.trans (HWr.out.mono HW9.out.size))
          go_wp2
          go_roundw
          case rel => exact ⟨goal + 1, by go_num, by omega, HWn⟩
          case measure => simp [intOf]; omega
    · go_wp2
      go_ret
      exact ⟨rfl, HB4.out.trans (HW.out.mono HB4.out.size)⟩
end Go.Proofs.Ytcfnilemikenhaa
