/- Contract of the reference's Closed of layer 6, for all graphs and lists. -/
import Derived.Test.YtkgnblnhfjjjmaaGsRef
namespace Go.Proofs.Ytkgnblnhfjjjmaa
open Go Go.RowKit Fl

set_option maxRecDepth 100000 in
set_option maxHeartbeats 4000000 in
theorem refClosed_c (A B C : Option Addr) (c d k : Nat) (g : GraphD) (s : List Bool) (l : List Int) (w : World) (hh : RowsAt w A g) (hs : Holds w B (s.map Bo)) (hc : Holds w C (l.map Iv)) (hl : g.length ≤ 1000000000000000000) (hr : ∀ r ∈ g, r.length ≤ 1000000000000000000) (hll : l.length ≤ 1000000000000000000) :
    Calls Try.prog 18 #[.slice A g.length c, .slice B s.length d, .slice C l.length k] w fun e w' => e = .returned (.bool (clsB g s l)) ∧ Below w.heap.size w w' := by
  have CC := Lib.hid (refCheck_c A B c d s.length g w hh hl hr)
  by_cases h0 : chkG g s.length = 0
  · have hv : validG g = true ∧ s.length = g.length := by
      rcases chkG_cases g s.length with h | h | h
      · exact h.2
      · omega
      · omega
    have HT : Hid (ClosedL g s l → clsB g s l = true) := Lib.hid (fun h => clsB_iff.2 ⟨h0, h⟩)
    have HF : Hid (¬ ClosedL g s l → clsB g s l = false) := Lib.hid (fun h => clsB_no fun h2 => h h2.2)
    rw [h0] at CC
    have hl24 := validG_len hv.1
    have HSL := Lib.hid hv.2
    have HR24 := Lib.hid (validG_short hv.1)
    have HH := Lib.hid hh
    have HS := Lib.hid hs
    have HC := Lib.hid hc
    generalize clsB g s l = res at *
    rcases Nat.eq_zero_or_pos l.length with hz | hz
    · have HE : Hid (res = false) := Lib.hid (HF.out fun h => h.walk.ne (List.eq_nil_of_length_eq_zero hz))
      have hd : ((l.length : Int) == 0) = true := by simp [hz]
      clear hh hs hc hr h0 hv hz
      go_enter Try.func18, Try.ntmps18
      go_wp2_with fail
      refine CC.out.mono ?_
      rintro e w1 ⟨rfl, rfl⟩
      go_wp2
      go_ret
      exact ⟨by rw [HE.out]; rfl, Below.refl _ _⟩
    · have hd : ((l.length : Int) == 0) = false := by rw [beq_eq_false_iff_ne]; omega
      clear hh hs hc hr h0 hv
      go_enter Try.func18, Try.ntmps18
      go_wp2_with fail
      refine CC.out.mono ?_
      rintro e w1 ⟨rfl, rfl⟩
      clear CC
      go_wp2
      go_loop [7] (fun i => ∃ j : Nat, i = .int .i64 j ∧ j ≤ l.length ∧ Hid (∀ i (h : i < l.length), i < j → okV g s l[i])) (fun i => l.length - (intOf i).toNat)
      case atStart => exact ⟨0, rfl, Nat.zero_le _, Lib.hid (fun i _ h => by omega)⟩
      case round =>
        obtain ⟨j, rfl, hj, HP⟩ := hrel
        by_cases hjt : j < l.length
        · obtain ⟨bc, oc, rfl, e1⟩ := HC.out.iv hjt
          have HNx := Lib.hid (fun (h : okV g s l[j]) => (show ∀ i (h : i < l.length), i < j + 1 → okV g s l[i] from fun i hi h2 => by
            rcases Nat.lt_succ_iff_lt_or_eq.1 h2 with h3 | rfl
            · exact HP.out i hi h3
            · exact h))
          have HBad := Lib.hid (fun (h : ¬ okV g s l[j]) => HF.out fun hcl => h (hcl.walk.ok _ (List.getElem_mem hjt)))
          clear HP
          by_cases hin : 0 ≤ l[j] ∧ l[j] < g.length
          · obtain ⟨x, hx⟩ := Int.eq_ofNat_of_zero_le hin.1
            have hxs : x < s.length := by have := HSL.out; omega
            obtain ⟨bs, os, rfl, e2⟩ := HS.out.bo hxs
            have hat := atB_at hxs
            have hxg : x < g.length := by omega
            rw [hx] at e1
            rcases hsx : s[x] with _ | _
            · have HN := Lib.hid (HNx.out ⟨by omega, by omega, by rw [hx, Int.toNat_natCast, hat, hsx]⟩)
              rw [hsx] at e2
              clear HNx HBad hin hx hat hsx
              go_wp2
              go_round
              case rel => exact ⟨j + 1, by go_num, by omega, HN⟩
              case measure => simp [intOf]; omega
            · have HE : Hid (res = false) := Lib.hid (HBad.out fun h => by
                have := h.2.2
                rw [hx, Int.toNat_natCast, hat, hsx] at this
                cases this)
              rw [hsx] at e2
              clear HNx HBad hin hx hat hsx
              go_wp2
              go_ret
              exact ⟨by rw [HE.out]; rfl, Below.refl _ _⟩
          · have HE : Hid (res = false) := Lib.hid (HBad.out fun h => hin ⟨h.1, h.2.1⟩)
            have hor : decide (l[j] < 0) = true ∨ decide (l[j] < 0) = false ∧ decide ((g.length : Int) ≤ l[j]) = true := by
              simp only [decide_eq_true_eq, decide_eq_false_iff_not]
              omega
            clear HNx HBad hin
            generalize l[j] = z at *
            rcases hor with h1 | ⟨h1, h2⟩
            all_goals
              go_wp2
              go_ret
              exact ⟨by rw [HE.out]; rfl, Below.refl _ _⟩
        · have HOk : Hid (∀ i (h : i < l.length), okV g s l[i]) := Lib.hid (fun i h => HP.out i h (by omega))
          clear HP
          go_wp2
          go_loopw [8] (fun i wr => ∃ m : Nat, i = .int .i64 m ∧ m ≤ l.length ∧ Hid (∀ i (h : i < l.length), i < m → edgeI g l[i] (l[(i + 1) % l.length]'(Nat.mod_lt _ (by omega)))) ∧ Hid (Below w.heap.size w wr)) (fun i _ => l.length - (intOf i).toNat)
          case atStart => exact ⟨0, rfl, Nat.zero_le _, Lib.hid (fun i _ h => by omega), Lib.hid (Below.refl _ _)⟩
          case round =>
            obtain ⟨m, rfl, hm, HP, HB⟩ := hrel
            by_cases hmt : m < l.length
            · have hnx : (m + 1) % l.length < l.length := Nat.mod_lt _ (by omega)
              obtain ⟨bc, oc, rfl, e1⟩ := (HC.out.keep HB.out).iv hmt
              obtain ⟨bc2, oc2, hC2, e2⟩ := (HC.out.keep HB.out).iv hnx
              injection hC2 with hC2
              injection hC2 with q1 q2
              subst q1 q2
              have hok := HOk.out m hmt
              obtain ⟨x, hx⟩ := Int.eq_ofNat_of_zero_le hok.1
              have hxg : x < g.length := by have := hok.2.1; omega
              obtain ⟨bg, og, A1, c1, rfl, e3, h3⟩ := (HH.out.keep HB.out).one hxg
              have hr24 := HR24.out _ (List.getElem_mem hxg)
              have hrow := rowG_at hxg
              have hmod : Int.tmod ((m : Int) + 1) (l.length : Int) = (((m + 1) % l.length : Nat) : Int) := by
                rw [Int.tmod_eq_emod_of_nonneg (by omega)]
                rfl
              have CH := Lib.hid (fun n => (has_c A1 c1 g[x] l[(m + 1) % l.length] (wr.drewN n) (h3.drewN n) (by omega)).mono fun e w' h => (⟨h.1, h.2.symm⟩ : e = .returned (.bool (decide (l[(m + 1) % l.length] ∈ g[x]))) ∧ w' = wr.drewN n))
              have HNx := Lib.hid (fun (h : l[(m + 1) % l.length] ∈ g[x]) => (show ∀ i (h : i < l.length), i < m + 1 → edgeI g l[i] (l[(i + 1) % l.length]'(Nat.mod_lt _ (by omega))) from fun i hi h2 => by
                rcases Nat.lt_succ_iff_lt_or_eq.1 h2 with h3 | rfl
                · exact HP.out i hi h3
                · unfold edgeI; rw [hx, Int.toNat_natCast, hrow]; exact h))
              have HBad := Lib.hid (fun (h : ¬ l[(m + 1) % l.length] ∈ g[x]) => HF.out fun hcl => h (by
                have := (closed_iff.1 hcl).2.2 m hmt
                unfold edgeI at this
                rw [hx, Int.toNat_natCast, hrow] at this
                exact this))
              rw [hx] at e1
              clear HP h3 hok hx hrow
              by_cases hin : l[(m + 1) % l.length] ∈ g[x]
              · have HN := Lib.hid (HNx.out hin)
                rw [decide_eq_true hin] at CH
                clear HNx HBad hin
                generalize l[(m + 1) % l.length] = z at *
                generalize g[x] = r at *
                generalize (m + 1) % l.length = y at *
                go_wp2_with fail
                go_quiet (first | (go_at_call 19; exact Calls.quiet_of_same (CH.out _)))
                have HB2 := Lib.hid (below_drewN HB.out nq)
                go_wp2
                go_roundw
                case rel => exact ⟨m + 1, by go_num, by omega, HN, HB2⟩
                case measure => simp [intOf]; omega
              · have HE := Lib.hid (HBad.out hin)
                rw [decide_eq_false hin] at CH
                clear HNx HBad hin
                generalize l[(m + 1) % l.length] = z at *
                generalize g[x] = r at *
                generalize (m + 1) % l.length = y at *
                go_wp2_with fail
                go_quiet (first | (go_at_call 19; exact Calls.quiet_of_same (CH.out _)))
                have HB2 := Lib.hid (below_drewN HB.out nq)
                go_wp2
                go_ret
                exact ⟨by rw [HE.out]; rfl, HB2.out⟩
            · have HE : Hid (res = true) := Lib.hid (HT.out (closed_iff.2 ⟨fun e => by rw [e] at hz; simp at hz, HOk.out, fun j hj => HP.out j hj (by omega)⟩))
              clear HP HOk
              go_wp2
              go_ret
              exact ⟨by rw [HE.out]; rfl, HB.out⟩
  · have HE := Lib.hid (clsB_no (g := g) (s := s) (l := l) fun h => h0 h.1)
    have hcase : chkG g s.length = 19 ∨ chkG g s.length = 20 := by
      rcases chkG_cases g s.length with h | h | h
      · exact absurd h.1 h0
      · exact .inl h
      · exact .inr h
    clear hh hs hc hr h0
    rcases hcase with h | h
    all_goals
      rw [h] at CC
      clear h
      go_enter Try.func18, Try.ntmps18
      go_wp2_with fail
      refine CC.out.mono ?_
      rintro e w1 ⟨rfl, rfl⟩
      go_wp2
      go_ret
      exact ⟨by rw [HE.out]; rfl, Below.refl _ _⟩
end Go.Proofs.Ytkgnblnhfjjjmaa
