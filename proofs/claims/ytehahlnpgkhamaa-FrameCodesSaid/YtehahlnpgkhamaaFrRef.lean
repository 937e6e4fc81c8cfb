/- Contracts of frame's Valid and of the reference's known, Valid and Encode. -/
import Derived.Test.YtehahlnpgkhamaaFrDec
namespace Go.Proofs.Ytehahlnpgkhamaa
open Go Go.RowKit Fl

theorem devValid_f (f : FrD) (w : World) : Calls Try.prog 14 #[FV f] w fun e w' => e = .returned (.bool (validF f)) ∧ Below w.heap.size w w' := by
  obtain ⟨z, hz⟩ : ∃ z, errF f = z := ⟨_, rfl⟩
  have CK := Lib.hid (check_z f z hz)
  have hcase := errF_cases f
  rw [hz] at hcase
  have HV : Hid (validF f = decide (z = 0)) := Lib.hid (by unfold validF; rw [hz])
  have HW := Lib.hid (below_newF w (.cells (FC f) 24))
  clear hz
  rcases hcase with rfl | rfl | rfl
  all_goals
    go_enter Try.func14, Try.ntmps14
    go_wp2_with fail
    refine (CK.out _).mono ?_
    rintro e w2 ⟨rfl, hb2⟩
    have HB2 := Lib.hid (HW.out.trans (hb2.mono HW.out.size))
    clear hb2
    go_wp2
    go_ret
    exact ⟨by rw [HV.out]; rfl, HB2.out⟩
def kindB (k : Int) : Bool := decide (k = 1 ∨ k = 2 ∨ k = 3)
theorem refKnown_c (k : Int) (w : World) : Calls Try.prog 17 #[.int .i64 k] w fun e w' => e = .returned (.bool (kindB k)) ∧ w = w' := by
  have hc : k = 1 ∨ k = 2 ∨ k = 3 ∨ (((k == 1) = false ∧ (k == 2) = false ∧ (k == 3) = false) ∧ kindB k = false) := by
    by_cases h : k = 1 ∨ k = 2 ∨ k = 3
    · omega
    · refine .inr (.inr (.inr ⟨⟨?_, ?_, ?_⟩, by simp [kindB, h]⟩)) <;> rw [beq_eq_false_iff_ne] <;> omega
  rcases hc with rfl | rfl | rfl | ⟨⟨k1, k2, k3⟩, hk⟩
  · go_enter Try.func17, Try.ntmps17
    go_wp2
    go_ret
    exact ⟨rfl, rfl⟩
  · go_enter Try.func17, Try.ntmps17
    go_wp2
    go_ret
    exact ⟨rfl, rfl⟩
  · go_enter Try.func17, Try.ntmps17
    go_wp2
    go_ret
    exact ⟨rfl, rfl⟩
  · have HK := Lib.hid hk
    clear hk
    go_enter Try.func17, Try.ntmps17
    go_wp2
    go_ret
    exact ⟨by rw [HK.out]; rfl, rfl⟩
theorem refKnown_k (k : Int) (z : Bool) (h : kindB k = z) (w : World) : Calls Try.prog 17 #[.int .i64 k] w fun e w' => e = .returned (.bool z) ∧ w = w' := by
  have := refKnown_c k w
  rwa [h] at this
/-- What the reference's Valid asks besides the kind and the flag. -/
def partB (f : FrD) : Bool := fromB 0 7 f.robot && decide (1 ≤ f.seq) && fromB 0 47 f.cell && fromB 0 2 f.flag
theorem valid_no {f : FrD} (h : kindB f.kind = false ∨ partB f = false) : validF f = false := by
  unfold validF
  rw [decide_eq_false_iff_not]
  intro he
  obtain ⟨h1, h2⟩ := errF_ok he
  obtain ⟨k0, k1, k2, k3, k4⟩ := okF_bounds h2
  have := lastCell_le f.kind
  have := firstFlag_ge f.kind
  have := lastFlag_le f.kind
  rcases h with h | h
  · unfold kindB at h; simp [h1] at h
  · unfold partB at h
    rw [fromB_iff.2 k1, decide_eq_true k0, fromB_iff.2 ⟨k2.1, by omega⟩, fromB_iff.2 ⟨by omega, by omega⟩] at h
    cases h
theorem valid_yes {f : FrD} (hk : kindB f.kind = true) (hp : partB f = true) : validF f = (if f.kind = 1 then decide (f.flag ≤ 1) else if f.kind = 2 then decide (1 ≤ f.flag) else decide (f.cell = 0)) := by
  unfold partB at hp
  simp only [Bool.and_eq_true, fromB_iff, decide_eq_true_eq] at hp
  obtain ⟨⟨⟨p1, p2⟩, p3⟩, p4⟩ := hp
  have hk' : f.kind = 1 ∨ f.kind = 2 ∨ f.kind = 3 := by simpa [kindB] using hk
  have e1 : validF f = okF f := by
    unfold validF errF
    rw [if_pos hk']
    cases okF f <;> rfl
  rw [e1]
  unfold okF
  rw [decide_eq_true p2, fromB_iff.2 p1, Bool.eq_iff_iff]
  rcases hk' with h | h | h
  all_goals
    rw [h]
    simp [lastCell, firstFlag, lastFlag, fromB_iff]
    omega
set_option maxRecDepth 100000 in
set_option maxHeartbeats 4000000 in
theorem refValid_c (f : FrD) (w : World) : Calls Try.prog 15 #[FV f] w fun e w' => e = .returned (.bool (validF f)) ∧ Below w.heap.size w w' := by
  have HW := Lib.hid (below_newF w (.cells (FC f) 24))
  by_cases hk : kindB f.kind = true
  · have CK := Lib.hid (refKnown_k f.kind true hk)
    by_cases hp : partB f = true
    · have HV := Lib.hid (valid_yes hk hp)
      have hk' : f.kind = 1 ∨ f.kind = 2 ∨ f.kind = 3 := by simpa [kindB] using hk
      unfold partB at hp
      simp only [Bool.and_eq_true, fromB_iff, decide_eq_true_eq] at hp
      obtain ⟨⟨⟨⟨p1, p2⟩, p3⟩, p4, p5⟩, p6, p7⟩ := hp
      obtain ⟨kind, robot, seq, cell, flag⟩ := f
      simp only at *
      have q1 : decide (robot < 0) = false := by simp; omega
      have q2 : decide (8 ≤ robot) = false := by simp; omega
      have q3 : decide (seq < 1) = false := by simp; omega
      have q4 : decide (cell < 0) = false := by simp; omega
      have q5 : decide (48 ≤ cell) = false := by simp; omega
      have q6 : decide (flag < 0) = false := by simp; omega
      have q7 : decide (2 < flag) = false := by simp; omega
      clear hk p1 p2 p3 p4 p5 p6 p7
      rcases hk' with rfl | rfl | rfl
      all_goals
        go_enter Try.func15, Try.ntmps15
        go_wp2_with fail
        refine (CK.out _).mono ?_; rintro e w' ⟨rfl, rfl⟩
        go_wp2
        go_ret
        exact ⟨by rw [HV.out]; first | rfl | (simp; rfl) | simp, HW.out⟩
    · have HV := Lib.hid (valid_no (f := f) (.inr (by simpa using hp)))
      have hp' : ¬ ((0 ≤ f.robot ∧ f.robot ≤ 7) ∧ 1 ≤ f.seq ∧ (0 ≤ f.cell ∧ f.cell ≤ 47) ∧ 0 ≤ f.flag ∧ f.flag ≤ 2) := fun h => hp (by
        unfold partB
        rw [fromB_iff.2 h.1, decide_eq_true h.2.1, fromB_iff.2 h.2.2.1, fromB_iff.2 h.2.2.2]; rfl)
      obtain ⟨kind, robot, seq, cell, flag⟩ := f
      simp only at *
      clear hk hp
      by_cases p1 : robot < 0
      · clear hp'
        go_enter Try.func15, Try.ntmps15
        go_wp2_with fail
        refine (CK.out _).mono ?_; rintro e w' ⟨rfl, rfl⟩
        go_wp2
        go_ret
        exact ⟨by rw [HV.out]; rfl, HW.out⟩
      have q1 : decide (robot < 0) = false := by simpa using p1
      by_cases p2 : 8 ≤ robot
      · clear hp'
        go_enter Try.func15, Try.ntmps15
        go_wp2_with fail
        refine (CK.out _).mono ?_; rintro e w' ⟨rfl, rfl⟩
        go_wp2
        go_ret
        exact ⟨by rw [HV.out]; rfl, HW.out⟩
      have q2 : decide (8 ≤ robot) = false := by simpa using p2
      by_cases p3 : seq < 1
      · clear hp'
        go_enter Try.func15, Try.ntmps15
        go_wp2_with fail
        refine (CK.out _).mono ?_; rintro e w' ⟨rfl, rfl⟩
        go_wp2
        go_ret
        exact ⟨by rw [HV.out]; rfl, HW.out⟩
      have q3 : decide (seq < 1) = false := by simpa using p3
      by_cases p4 : cell < 0
      · clear hp'
        go_enter Try.func15, Try.ntmps15
        go_wp2_with fail
        refine (CK.out _).mono ?_; rintro e w' ⟨rfl, rfl⟩
        go_wp2
        go_ret
        exact ⟨by rw [HV.out]; rfl, HW.out⟩
      have q4 : decide (cell < 0) = false := by simpa using p4
      by_cases p5 : 48 ≤ cell
      · clear hp'
        go_enter Try.func15, Try.ntmps15
        go_wp2_with fail
        refine (CK.out _).mono ?_; rintro e w' ⟨rfl, rfl⟩
        go_wp2
        go_ret
        exact ⟨by rw [HV.out]; rfl, HW.out⟩
      have q5 : decide (48 ≤ cell) = false := by simpa using p5
      by_cases p6 : flag < 0
      · clear hp'
        go_enter Try.func15, Try.ntmps15
        go_wp2_with fail
        refine (CK.out _).mono ?_; rintro e w' ⟨rfl, rfl⟩
        go_wp2
        go_ret
        exact ⟨by rw [HV.out]; rfl, HW.out⟩
      have q6 : decide (flag < 0) = false := by simpa using p6
      have p7 : 2 < flag := by omega
      clear hp'
      go_enter Try.func15, Try.ntmps15
      go_wp2_with fail
      refine (CK.out _).mono ?_; rintro e w' ⟨rfl, rfl⟩
      go_wp2
      go_ret
      exact ⟨by rw [HV.out]; rfl, HW.out⟩
  · have hk' : kindB f.kind = false := by simpa using hk
    have HV := Lib.hid (valid_no (f := f) (.inl hk'))
    have CK := Lib.hid (refKnown_k f.kind false hk')
    obtain ⟨kind, robot, seq, cell, flag⟩ := f
    simp only at *
    clear hk hk'
    go_enter Try.func15, Try.ntmps15
    go_wp2_with fail
    refine (CK.out _).mono ?_; rintro e w' ⟨rfl, rfl⟩
    go_wp2
    go_ret
    exact ⟨by rw [HV.out]; rfl, HW.out⟩
end Go.Proofs.Ytehahlnpgkhamaa
