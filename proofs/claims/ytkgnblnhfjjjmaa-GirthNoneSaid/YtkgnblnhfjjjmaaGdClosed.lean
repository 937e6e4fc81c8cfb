/- girth's Closed, for all graphs, marks and lists. -/
import Derived.Test.YtkgnblnhfjjjmaaGdAll
import Derived.Test.YtkgnblnhfjjjmaaGsCls
namespace Go.Proofs.Ytkgnblnhfjjjmaa
open Go Go.RowKit Fl

set_option maxRecDepth 100000 in
set_option maxHeartbeats 4000000 in
theorem index_c (A : Option Addr) (c : Nat) (r : List Int) (z : Int) (w : World) (hr : Holds w A (r.map Iv)) (hr24 : r.length ≤ 24) :
    Calls Try.prog 38 #[.slice A r.length c, .int .i64 z] w fun e w' => (∃ k : Int, e = .returned (.int .i64 k) ∧ (0 ≤ k ↔ z ∈ r)) ∧ w' = w := by
  have HR := Lib.hid hr
  clear hr
  go_enter Try.func38, Try.ntmps38
  go_wp2
  go_loop [8] (fun i => ∃ j : Nat, i = .int .i64 j ∧ j ≤ r.length ∧ Hid (∀ i (h : i < r.length), i < j → r[i] ≠ z)) (fun i => r.length - (intOf i).toNat)
  case atStart => exact ⟨0, rfl, Nat.zero_le _, Lib.hid (fun i _ h => by omega)⟩
  case round =>
    obtain ⟨j, rfl, hj, HP⟩ := hrel
    by_cases hjt : j < r.length
    · obtain ⟨b, o, rfl, e1⟩ := HR.out.iv hjt
      by_cases he : r[j] = z
      · have HE : Hid (z ∈ r) := Lib.hid (by rw [← he]; exact List.getElem_mem hjt)
        rw [he] at e1
        clear HP he
        go_wp2
        go_ret
        exact ⟨⟨_, rfl, ⟨fun _ => HE.out, fun _ => by omega⟩⟩, rfl⟩
      · have HN : Hid (∀ i (h : i < r.length), i < j + 1 → r[i] ≠ z) := Lib.hid (fun i hi h2 => by
          rcases Nat.lt_succ_iff_lt_or_eq.1 h2 with h3 | rfl
          · exact HP.out i hi h3
          · exact he)
        have h1 : (z == r[j]) = false := by rw [beq_eq_false_iff_ne]; exact fun e => he e.symm
        have h2 : ¬ z = r[j] := fun e => he e.symm
        clear HP
        generalize r[j] = y at *
        go_wp2
        go_round
        case rel => exact ⟨j + 1, by go_num, by omega, HN⟩
        case measure => simp [intOf]; omega
    · have HE : Hid (¬ z ∈ r) := Lib.hid (fun h => by
        obtain ⟨i, hi, e⟩ := List.mem_iff_getElem.1 h
        exact HP.out i hi (by omega) e)
      clear HP
      go_wp2
      go_ret
      exact ⟨⟨_, rfl, ⟨fun h => by omega, fun h => absurd h HE.out⟩⟩, rfl⟩
set_option maxRecDepth 100000 in
set_option maxHeartbeats 4000000 in
theorem contains_c (A : Option Addr) (c : Nat) (r : List Int) (z : Int) (w : World) (hr : Holds w A (r.map Iv)) (hr24 : r.length ≤ 24) :
    Calls Try.prog 28 #[.slice A r.length c, .int .i64 z] w fun e w' => e = .returned (.bool (decide (z ∈ r))) ∧ w' = w := by
  have CI := Lib.hid (index_c A c r z w hr hr24)
  clear hr
  go_enter Try.func28, Try.ntmps28
  go_wp2_with fail
  refine CI.out.mono ?_
  rintro e w1 ⟨⟨k, rfl, hk⟩, rfl⟩
  have HK := Lib.hid hk
  clear hk CI
  go_wp2
  go_ret
  exact ⟨gr_bool (decide_eq_decide.2 HK.out), rfl⟩
/-- The place before j on a closed walk of m places. -/
def prI (m j : Nat) : Nat := if j = 0 then m - 1 else j - 1
def stepC (h : GraphD) (l : List Int) (j : Nat) : Prop := 0 ≤ l.getD (prI l.length j) 0 ∧ l.getD (prI l.length j) 0 < h.length ∧ l.getD j 0 ∈ rowG h (l.getD (prI l.length j) 0).toNat
theorem closed_steps {g : GraphD} {s : List Bool} {l : List Int} (hl : 0 < l.length) : ClosedL g s l ↔ ∀ j, j < l.length → stepC (woG g s) l j := by
  have gd : ∀ {j : Nat} (h : j < l.length), l.getD j 0 = l[j] := fun {j} h => by rw [List.getD_eq_getElem?_getD, List.getElem?_eq_getElem h]; rfl
  have pr : ∀ j, j < l.length → prI l.length j < l.length ∧ (prI l.length j + 1) % l.length = j := fun j hj => by
    unfold prI
    by_cases h0 : j = 0
    · subst h0
      rw [if_pos rfl, show l.length - 1 + 1 = l.length by omega, Nat.mod_self]
      exact ⟨by omega, rfl⟩
    · rw [if_neg h0, show j - 1 + 1 = j by omega]
      exact ⟨by omega, Nat.mod_eq_of_lt hj⟩
  have nx : ∀ j, j < l.length → prI l.length ((j + 1) % l.length) = j := fun j hj => by
    unfold prI
    rcases Nat.lt_or_ge (j + 1) l.length with h1 | h1
    · rw [Nat.mod_eq_of_lt h1, if_neg (by omega)]; omega
    · rw [show j + 1 = l.length by omega, Nat.mod_self, if_pos rfl]; omega
  rw [closed_iff]
  constructor
  · rintro ⟨_, h2, h3⟩ j hj
    obtain ⟨p1, p2⟩ := pr j hj
    have o1 := h2 _ p1
    have o2 := h2 _ hj
    have e1 := h3 _ p1
    unfold stepC
    rw [gd p1, gd hj, woG_length]
    refine ⟨o1.1, o1.2.1, ?_⟩
    obtain ⟨x, hx⟩ := Int.eq_ofNat_of_zero_le o1.1
    obtain ⟨y, hy⟩ := Int.eq_ofNat_of_zero_le o2.1
    have e2 : l[(prI l.length j + 1) % l.length]'(Nat.mod_lt _ (by omega)) = l[j] := by congr 1
    rw [e2] at e1
    have hxg : x < g.length := by have := o1.2.1; omega
    unfold edgeI at e1
    rw [hx, hy, Int.toNat_natCast] at e1
    have a1 := o1.2.2
    have a2 := o2.2.2
    rw [hx, Int.toNat_natCast] at a1
    rw [hy, Int.toNat_natCast] at a2
    rw [hx, hy, Int.toNat_natCast]
    exact (woG_edge hxg).2 ⟨e1, a1, a2⟩
  · intro h
    have key : ∀ j (hj : j < l.length), okV g s l[j] ∧ edgeI g l[j] (l[(j + 1) % l.length]'(Nat.mod_lt _ (by omega))) := fun j hj => by
      have hm : (j + 1) % l.length < l.length := Nat.mod_lt _ (by omega)
      have h1 := h _ hm
      unfold stepC at h1
      rw [nx j hj, gd hj, gd hm, woG_length] at h1
      obtain ⟨a0, a1, a2⟩ := h1
      obtain ⟨x, hx⟩ := Int.eq_ofNat_of_zero_le a0
      have hxg : x < g.length := by omega
      rw [hx, Int.toNat_natCast] at a2
      have hb := woG_row (s := s) hxg
      rcases hs : atB s x with _ | _
      · rw [hb, hs] at a2
        simp only [Bool.false_eq_true, if_false] at a2
        unfold edgeI
        rw [hx, Int.toNat_natCast]
        exact ⟨⟨by omega, by omega, by rw [Int.toNat_natCast]; exact hs⟩, (List.mem_filter.1 a2).1⟩
      · rw [hb, hs] at a2
        simp at a2
    exact ⟨fun e => by rw [e] at hl; simp at hl, fun j hj => (key j hj).1, fun j hj => (key j hj).2⟩
set_option maxRecDepth 100000 in
set_option maxHeartbeats 4000000 in
theorem devClosed_c (A B C : Option Addr) (c d k : Nat) (g : GraphD) (s : List Bool) (l : List Int) (w : World) (hh : RowsAt w A g) (hs : Holds w B (s.map Bo)) (hc : Holds w C (l.map Iv)) (hz : Sized g) (hll : l.length ≤ 1000000000000000000) :
    Calls Try.prog 17 #[.slice A g.length c, .slice B s.length d, .slice C l.length k] w fun e w' => e = .returned (.bool (clsB g s l)) ∧ Below w.heap.size w w' := by
  have C1 := devWithout_c A B c d g s w hh hs hz.1 hz.2
  by_cases h0 : chkG g s.length = 0
  · have hv : validG g = true ∧ s.length = g.length := by
      rcases chkG_cases g s.length with h | h | h
      · exact h.2
      · omega
      · omega
    have HT : Hid (ClosedL g s l → clsB g s l = true) := Lib.hid (fun h => clsB_iff.2 ⟨h0, h⟩)
    have HF : Hid (¬ ClosedL g s l → clsB g s l = false) := Lib.hid (fun h => clsB_no fun h2 => h h2.2)
    have hL : woL g s = woG g s := by unfold woL; rw [if_pos h0]
    rw [hL, h0] at C1
    have hwv := woG_valid (s := s) hv.1
    have CA := Lib.hid C1
    have hl24 := validG_len hv.1
    have hwl : (woG g s).length = g.length := woG_length g s
    have HWL := Lib.hid hwl
    have HR24 := Lib.hid (validG_short hwv)
    have HC := Lib.hid hc
    have HS := Lib.hid (closed_steps (g := g) (s := s) (l := l))
    generalize clsB g s l = res at *
    generalize woG g s = O at *
    rcases Nat.eq_zero_or_pos l.length with hz0 | hz0
    · have HE : Hid (res = false) := Lib.hid (HF.out fun h => h.walk.ne (List.eq_nil_of_length_eq_zero hz0))
      have hd : ((l.length : Int) == 0) = true := by simp [hz0]
      clear hh hs hc h0 hv hz C1 hwv hL HS hwl
      go_enter Try.func17, Try.ntmps17
      go_wp2_with fail
      refine CA.out.mono ?_
      rintro e w1 ⟨u, rfl, own1, hb1⟩
      obtain ⟨A1, c1, rfl, r1⟩ := own1.at_
      have HB1 := Lib.hid hb1
      clear own1 r1 hb1 CA
      go_wp2
      go_ret
      exact ⟨by rw [HE.out]; rfl, HB1.out⟩
    · have hd : ((l.length : Int) == 0) = false := by rw [beq_eq_false_iff_ne]; omega
      have HIff := Lib.hid (HS.out hz0)
      obtain ⟨bc, oc, rfl, e1⟩ := hc.iv (show l.length - 1 < l.length by omega)
      have HGD : Hid (∀ j (h : j < l.length), l.getD j 0 = l[j]) := Lib.hid (fun j h => by rw [List.getD_eq_getElem?_getD, List.getElem?_eq_getElem h]; rfl)
      have hbc : bc < w.heap.size := World.block_lt_of_cell? _ _ e1
      clear hh hs hc h0 hv hz C1 hwv hL HS hwl
      go_enter Try.func17, Try.ntmps17
      go_wp2_with fail
      refine CA.out.mono ?_
      rintro e w1 ⟨u, rfl, own1, hb1⟩
      obtain ⟨A1, c1, rfl, r1⟩ := own1.at_
      rw [HWL.out]
      have R1 := Lib.hid r1
      have HB1 := Lib.hid hb1
      have e2 : w1.cell? ⟨bc, oc + (l.length - 1), none⟩ = some (.int .i64 (l.getD (prI l.length 0) 0)) := by
        rw [(hb1.cell (p := ⟨bc, oc + (l.length - 1), none⟩) hbc).trans e1, show prI l.length 0 = l.length - 1 from rfl, HGD.out _ (by omega)]
      clear own1 r1 hb1 CA e1
      have hsub : ((l.length : Int) - 1).toNat = l.length - 1 := by omega
      obtain ⟨z0, HZ0⟩ : ∃ z0, Hid (l.getD (prI l.length 0) 0 = z0) := ⟨_, Lib.hid rfl⟩
      rw [HZ0.out] at e2
      go_wp2
      go_loop [9, 33] (fun zv i => ∃ j : Nat, zv = .int .i64 (l.getD (prI l.length j) 0) ∧ i = .int .i64 j ∧ j ≤ l.length ∧ Hid (∀ i, i < j → stepC O l i)) (fun _ i => l.length - (intOf i).toNat)
      case atStart => exact ⟨0, by rw [HZ0.out], rfl, Nat.zero_le _, Lib.hid (fun i h => by omega)⟩
      case round =>
        clear e2 hsub
        obtain ⟨j, rfl, rfl, hj, HP⟩ := hrel
        by_cases hjt : j < l.length
        · obtain ⟨bc', oc', hE1, e1⟩ := (HC.out.keep HB1.out).iv hjt
          injection hE1 with hE1
          injection hE1 with q1 q2
          subst q1 q2
          have HSt : Hid (stepC O l j ↔ 0 ≤ l.getD (prI l.length j) 0 ∧ l.getD (prI l.length j) 0 < O.length ∧ l[j] ∈ rowG O (l.getD (prI l.length j) 0).toNat) := Lib.hid (by unfold stepC; rw [HGD.out j hjt])
          have HNx := Lib.hid (fun (h : stepC O l j) => (show ∀ i, i < j + 1 → stepC O l i from fun i h2 => by
            rcases Nat.lt_succ_iff_lt_or_eq.1 h2 with h3 | rfl
            · exact HP.out i h3
            · exact h))
          have HBad := Lib.hid (fun (h : ¬ stepC O l j) => HF.out fun hcl => h (HIff.out.1 hcl j hjt))
          have HVal : Hid (l.getD (prI l.length (j + 1)) 0 = l[j]) := Lib.hid (by rw [show prI l.length (j + 1) = j by unfold prI; rw [if_neg (by omega)]; rfl, HGD.out j hjt])
          clear HP
          generalize l.getD (prI l.length j) 0 = p at *
          by_cases hin : 0 ≤ p ∧ p < g.length
          · obtain ⟨x, rfl⟩ := Int.eq_ofNat_of_zero_le hin.1
            have hxg : x < g.length := by omega
            have hxO : x < O.length := by have := HWL.out; omega
            obtain ⟨bg, og, A2, c2, rfl, e3, h3⟩ := R1.out.one hxO
            have hr24 := HR24.out _ (List.getElem_mem hxO)
            have hrow := rowG_at hxO
            rw [Int.toNat_natCast, hrow] at HSt
            have CH := Lib.hid (contains_c A2 c2 O[x] l[j] w1 h3 hr24)
            clear h3 hin hrow
            by_cases hm : l[j] ∈ O[x]
            · have HN := Lib.hid (HNx.out (HSt.out.2 ⟨by omega, by omega, hm⟩))
              rw [decide_eq_true hm] at CH
              clear HNx HBad HSt hm
              generalize l[j] = y at *
              generalize O[x] = r at *
              clear hxO
              go_wp2_with fail
              refine CH.out.mono ?_
              rintro e w2 ⟨rfl, rfl⟩
              clear CH
              go_wp2
              go_round
              case rel => exact ⟨j + 1, by rw [HVal.out], by go_num, by omega, HN⟩
              case measure => simp [intOf]; omega
            · have HE := Lib.hid (HBad.out fun h => hm (HSt.out.1 h).2.2)
              rw [decide_eq_false hm] at CH
              clear HNx HBad HSt hm
              generalize l[j] = y at *
              generalize O[x] = r at *
              clear hxO
              go_wp2_with fail
              refine CH.out.mono ?_
              rintro e w2 ⟨rfl, rfl⟩
              clear CH
              go_wp2
              go_ret
              exact ⟨by rw [HE.out]; rfl, HB1.out⟩
          · have HE := Lib.hid (HBad.out fun h => hin ⟨(HSt.out.1 h).1, by have := (HSt.out.1 h).2.1; have := HWL.out; omega⟩)
            have hor : decide (p < 0) = true ∨ decide (p < 0) = false ∧ decide ((g.length : Int) ≤ p) = true := by
              simp only [decide_eq_true_eq, decide_eq_false_iff_not]
              omega
            clear HNx HBad HSt hin
            generalize l[j] = y at *
            rcases hor with h1 | ⟨h1, h2⟩
            all_goals
              go_wp2
              go_ret
              exact ⟨by rw [HE.out]; rfl, HB1.out⟩
        · have HE : Hid (res = true) := Lib.hid (HT.out (HIff.out.2 fun i hi => HP.out i (by omega)))
          clear HP
          go_wp2
          go_ret
          exact ⟨by rw [HE.out]; rfl, HB1.out⟩
  · have HE := Lib.hid (clsB_no (g := g) (s := s) (l := l) fun h => h0 h.1)
    have CA := Lib.hid C1
    have hcase : chkG g s.length = 19 ∨ chkG g s.length = 20 := by
      rcases chkG_cases g s.length with h | h | h
      · exact absurd h.1 h0
      · exact .inl h
      · exact .inr h
    clear hh hs hc h0 hz C1
    rcases hcase with h | h
    all_goals
      rw [h] at CA
      clear h
      go_enter Try.func17, Try.ntmps17
      go_wp2_with fail
      refine CA.out.mono ?_
      rintro e w1 ⟨u, rfl, own1, hb1⟩
      obtain ⟨A1, c1, rfl, r1⟩ := own1.at_
      have HB1 := Lib.hid hb1
      clear own1 r1 hb1 CA
      go_wp2
      go_ret
      exact ⟨by rw [HE.out]; rfl, HB1.out⟩
theorem devClosed_k : DevClosed := fun A B C c d k g s l w hh hs hc hz hl => devClosed_c A B C c d k g s l w hh hs hc hz hl
end Go.Proofs.Ytkgnblnhfjjjmaa
