/- ComponentsMutual returns true, if components' and reach's functions keep what ChBase and RhDev ask. -/
import Derived.Test.YtcljmgchghjncaaChBase
namespace Go.Proofs.Ytcljmgchghjncaa
open Go Go.RowKit Fl

set_option maxRecDepth 100000 in
set_option maxHeartbeats 8000000 in
theorem componentsMutual_c (hF : DevFrom) (hM : DevMutual) (hN : DevNames) (hO : DevOrder) (hQ : DevQuot) (C : Option Addr) (k : Nat) (zs : List Int) (w : World) (hz : IntsAt w w.heap.size C zs) (hzl : zs.length ≤ maxLen) :
    Calls Try.prog 4 #[.slice C zs.length k] w fun e w' => e = .returned (.bool true) ∧ Below w.heap.size w w' := by
  have CK := Lib.hid (known5_c hN hO hQ w)
  have HF := Lib.hid hF
  have HM := Lib.hid hM
  have HN := Lib.hid hN
  have HO := Lib.hid hO
  have HQ := Lib.hid hQ
  have HZ := Lib.hid hz
  have HL := Lib.hid hzl
  clear hF hM hN hO hQ hz hzl
  go_enter Try.func4, Try.ntmps4
  go_wp2_with fail
  refine CK.out.mono ?_
  rintro e w1 ⟨rfl, hb1⟩
  have ht := tape_new (c := k) HZ.out (Nat.le_refl _) hb1 HL.out
  have hb2 : Below w.heap.size w (w1.alloc (.cells #[.slice C zs.length k, .int .i64 0] 28)) := hb1.alloc hb1.size _
  have HT2 := Lib.hid ht
  have hgB : w.heap.size ≤ w1.heap.size := hb1.size
  have HB2 := Lib.hid hb2
  have hsz2 : w1.heap.size < (w1.alloc (.cells #[.slice C zs.length k, .int .i64 0] 28)).heap.size := by simp
  clear hb1 ht hb2 CK HZ HL
  go_wp2_with fail
  refine (graph_c w.heap.size w1.heap.size _ 8 _ HT2.out (by omega) (by omega) hsz2).mono ?_
  rintro e w3 ⟨gv, g, rfl, hgl, hok, hown3, ht3, hst3⟩
  obtain ⟨A, c, rfl, _⟩ := hown3.at_
  have HV := Lib.hid (hok.valid (by omega))
  have HT3 := Lib.hid ht3
  have HO3 := Lib.hid hown3
  have HB3 := Lib.hid (HB2.out.trans (hst3.below HB2.out.size hgB))
  have hsz3 := Nat.lt_of_lt_of_le hsz2 hst3.size
  generalize w1.alloc (.cells #[.slice C zs.length k, .int .i64 0] 28) = w2 at *
  clear hok ht3 hown3 hst3 HT2 HB2
  go_wp2_with fail
  refine (shut_c w.heap.size w1.heap.size _ g.length w3 HT3.out (by omega) (by omega) hsz3).mono ?_
  rintro e w4 ⟨sv, s, rfl, hsl4, hos4, ht4, hst4⟩
  obtain ⟨B, d, rfl, hs4⟩ := own_is hos4
  have HSL := Lib.hid hsl4
  have HT4 := Lib.hid ht4
  have HO4 := Lib.hid (HO3.out.but hst4.grown hsz2)
  have HS4 := Lib.hid hos4
  have HB4 := Lib.hid (HB3.out.trans (hst4.below HB3.out.size hgB))
  have hsz4 := Nat.lt_of_lt_of_le hsz3 hst4.size
  clear HT3 HO3 HB3 hsl4 ht4 hos4 hs4 hst4
  have HRg : Hid (RowsAt w4 A g) := Lib.hid (by
    obtain ⟨A2, c2, h1, h2⟩ := HO4.out.at_
    injection h1 with h1
    subst h1
    exact h2)
  have HSs : Hid (Holds w4 B (s.map Bo)) := Lib.hid (by
    obtain ⟨A2, c2, h1, h2⟩ := own_is HS4.out
    injection h1 with h1
    subst h1
    exact h2)
  clear HM HO HQ HT4 HO4 HS4 hgB hsz4
  go_wp2_with fail
  refine (names_ok HN.out HRg.out HSs.out HV.out rfl HSL.out).mono ?_
  rintro e w5 ⟨X, cx, rfl, hx5, hb5⟩
  have HRg5 := Lib.hid (HRg.out.keep hb5)
  have HSs5 := Lib.hid (HSs.out.keep hb5)
  have HB5 := Lib.hid (HB4.out.trans (hb5.mono HB4.out.size))
  have HX5 := Lib.hid hx5
  have HNL := Lib.hid (namesL_length g s)
  clear hb5 hx5 HRg HSs HB4
  go_wp2
  go_loopw [8] (fun i wr => ∃ u : Nat, i = .int .i64 u ∧ u ≤ g.length ∧ Hid (Below w5.heap.size w5 wr)) (fun i _ => g.length - (intOf i).toNat)
  case atStart => exact ⟨0, rfl, Nat.zero_le _, Lib.hid (Below.refl _ _)⟩
  case round =>
    obtain ⟨u, rfl, hu, HW⟩ := hrel
    by_cases hlt : u < g.length
    · have hus : u < s.length := by have := HSL.out; omega
      have hul : u < (namesL g s).length := by rw [HNL.out]; exact hlt
      obtain ⟨bs, os, rfl, e1⟩ := marks_at (HSs5.out.keep HW.out) hus
      obtain ⟨bn, on, rfl, e2⟩ := (HX5.out.keep HW.out).iv hul
      rw [namesL_at] at e2
      have hcase : (nameOf g s u = -1 ∧ atB s u = true) ∨ ∃ a : Nat, nameOf g s u = a ∧ atB s u = false := by
        rcases e : atB s u with _ | _
        · obtain ⟨a, ha, _⟩ := name_open hlt e
          exact .inr ⟨a, ha, rfl⟩
        · exact .inl ⟨name_shut (fun h => by rw [e] at h; cases h.2), rfl⟩
      have hle := name_le g s u
      obtain ⟨na, hna⟩ : ∃ na, Hid (na = nameOf g s u) := ⟨_, Lib.hid rfl⟩
      rw [← hna.out] at e2 hcase hle
      have HCase := Lib.hid hcase
      have hdec : (atB s u != decide (na < 0)) = false ∧ decide ((u : Int) < na) = false := by
        rcases hcase with ⟨h1, h2⟩ | ⟨a, h1, h2⟩
        · rw [h2, h1]; exact ⟨rfl, by simp⟩
        · rw [h2, h1]; exact ⟨by simp, by simp; omega⟩
      obtain ⟨sv, hsv⟩ : ∃ sv, Hid (sv = atB s u) := ⟨_, Lib.hid rfl⟩
      rw [← hsv.out] at e1 hcase hdec
      obtain ⟨hd1, hd2⟩ := hdec
      have hcs : sv = true ∧ decide (na < 0) = true ∨ sv = false ∧ decide (na < 0) = false := by
        rcases hcase with ⟨h1, h2⟩ | ⟨a, h1, h2⟩
        · exact .inl ⟨h2, by rw [h1]; rfl⟩
        · exact .inr ⟨h2, by rw [h1]; simp⟩
      clear hd1 hle
      clear hcase
      rcases hcs with ⟨rfl, hd1⟩ | ⟨rfl, hd1⟩
      all_goals
        go_wp2_with fail
        go_quiet (fail)
        have HW6 := Lib.hid (below_drewN HW.out nq)
        clear HW e1 e2
        generalize wr.drewN nq = w6 at *
        go_wp2_with fail
        refine (from_ok HF.out (v := u) (HRg5.out.keep HW6.out) (HSs5.out.keep HW6.out) HV.out rfl HSL.out hlt).mono ?_
        rintro e w8 ⟨Y, cy, rfl, hy, hb8⟩
        have HY := Lib.hid hy
        have HW8 := Lib.hid (HW6.out.trans (hb8.mono HW6.out.size))
        clear hy hb8 HW6 hd1 hd2
        go_wp2
        go_loopw [11] (fun i wr => ∃ v : Nat, i = .int .i64 v ∧ v ≤ g.length ∧ Hid (Below w8.heap.size w8 wr)) (fun i _ => g.length - (intOf i).toNat)
        case atStart => exact ⟨0, rfl, Nat.zero_le _, Lib.hid (Below.refl _ _)⟩
        case round =>
          obtain ⟨v, rfl, hv, HW⟩ := hrel
          have HWr := Lib.hid (HW8.out.trans (HW.out.mono HW8.out.size))
          by_cases hvt : v < g.length
          · go_wp2_with fail
            refine (from_ok HF.out (v := v) (HRg5.out.keep HWr.out) (HSs5.out.keep HWr.out) HV.out rfl HSL.out hvt).mono ?_
            rintro e w9 ⟨Z, cz, rfl, hz, hb9⟩
            have HW9 := Lib.hid (HW.out.trans (hb9.mono HW.out.size))
            have HW59 := Lib.hid (HWr.out.trans (hb9.mono HWr.out.size))
            obtain ⟨b1, o1, p, rfl, e1, hp⟩ := reach_at rfl (HY.out.keep HW9.out) hvt
            obtain ⟨b2, o2, q, rfl, e2, hq⟩ := reach_at rfl hz hlt
            have hvl : v < (namesL g s).length := by rw [HNL.out]; exact hvt
            have e3 := ints_in (HX5.out.keep HW59.out) hul
            have e4 := ints_in (HX5.out.keep HW59.out) hvl
            rw [namesL_at] at e3 e4
            rw [← hna.out] at e3
            obtain ⟨nb, hnb⟩ : ∃ nb, Hid (nb = nameOf g s v) := ⟨_, Lib.hid rfl⟩
            rw [← hnb.out] at e4
            have hcase : na = -1 ∧ p = false ∨ (∃ a : Nat, na = a ∧ p = true ∧ q = true ∧ nb = a) ∨ (∃ a : Nat, na = a ∧ p = false ∧ (na == nb) = false) ∨ (∃ a : Nat, na = a ∧ p = true ∧ q = false ∧ (na == nb) = false) := by
              rcases HCase.out with ⟨h1, h2⟩ | ⟨a, h1, h2⟩
              · refine .inl ⟨h1, ?_⟩
                rcases e : p with _ | _
                · rfl
                · have := (hp.1 e).left.2
                  rw [h2] at this; cases this
              · have hbn : both g s u v → nb = na := fun h => by rw [hnb.out, hna.out, name_eq h]
                have hnb' : nb = na → both g s u v := fun h => name_both (by rw [← hna.out, ← hnb.out, h]) (by rw [← hna.out, h1]; omega)
                rcases e : p with _ | _
                · refine .inr (.inr (.inl ⟨a, h1, rfl, ?_⟩))
                  rw [beq_eq_false_iff_ne]
                  intro he
                  have := hp.2 (hnb' he.symm).1
                  rw [e] at this; cases this
                · rcases e' : q with _ | _
                  · refine .inr (.inr (.inr ⟨a, h1, rfl, rfl, ?_⟩))
                    rw [beq_eq_false_iff_ne]
                    intro he
                    have := hq.2 (hnb' he.symm).2
                    rw [e'] at this; cases this
                  · exact .inr (.inl ⟨a, h1, rfl, rfl, by rw [hbn ⟨hp.1 e, hq.1 e'⟩, h1]⟩)
            clear hp hq hz hb9 HW HWr HW59
            clear hna hnb HCase hsv
            rcases hcase with ⟨rfl, rfl⟩ | ⟨a, rfl, rfl, rfl, rfl⟩ | ⟨a, rfl, rfl, hd⟩ | ⟨a, rfl, rfl, rfl, hd⟩
            all_goals
              go_wp2_with fail
              go_quiet (fail)
              have HW10 := Lib.hid (below_drewN HW9.out nq)
              go_wp2
              go_roundw
              case rel => exact ⟨v + 1, by go_num, by omega, HW10⟩
              case measure => simp [intOf]; omega
          · clear HW HY
            go_wp2
            go_roundw
            case rel => exact ⟨u + 1, by go_num, by omega, HWr⟩
            case measure => simp [intOf]; omega
    · go_wp2
      go_ret
      exact ⟨rfl, HB5.out.trans (HW.out.mono HB5.out.size)⟩
end Go.Proofs.Ytcljmgchghjncaa
