/- Contracts of frame's isFrom, check and Valid. -/
import Derived.Test.YtehahlnpgkhamaaFrSpec
import Derived.Test.YtehahlnpgkhamaaGrApp
import Derived.Test.YtehahlnpgkhamaaTape
import Derived.Laws.StructEq
namespace Go.Proofs.Ytehahlnpgkhamaa
open Go Go.RowKit Fl

/-- A frame as a value, and its cells. -/
abbrev FV (f : FrD) : Value := .agg #[.int .i64 f.kind, .int .i64 f.robot, .int .u64 f.seq, .int .i64 f.cell, .int .i64 f.flag]
abbrev FC (f : FrD) : Array Value := #[.int .i64 f.kind, .int .i64 f.robot, .int .u64 f.seq, .int .i64 f.cell, .int .i64 f.flag]
abbrev Bv8 (z : Int) : Value := .int .u8 z
theorem isFrom_c (x a b : Int) (w : World) : Calls Try.prog 20 #[.int .i64 x, .int .i64 a, .int .i64 b] w fun e w' => e = .returned (.bool (fromB a b x)) ∧ w = w' := by
  by_cases h1 : a ≤ x
  · by_cases h2 : x ≤ b
    · have HF : Hid (fromB a b x = true) := Lib.hid (fromB_iff.2 ⟨h1, h2⟩)
      go_enter Try.func20, Try.ntmps20
      go_wp2
      go_ret
      exact ⟨by rw [HF.out]; rfl, rfl⟩
    · have HF : Hid (fromB a b x = false) := Lib.hid (by simp [fromB, h2])
      have h2' : decide (x ≤ b) = false := by simpa using h2
      go_enter Try.func20, Try.ntmps20
      go_wp2
      go_ret
      exact ⟨by rw [HF.out]; rfl, rfl⟩
  · have HF : Hid (fromB a b x = false) := Lib.hid (by simp [fromB, h1])
    have h1' : decide (a ≤ x) = false := by simpa using h1
    go_enter Try.func20, Try.ntmps20
    go_wp2
    go_ret
    exact ⟨by rw [HF.out]; rfl, rfl⟩
theorem isFrom_k (x a b : Int) (z : Bool) (h : fromB a b x = z) (w : World) : Calls Try.prog 20 #[.int .i64 x, .int .i64 a, .int .i64 b] w fun e w' => e = .returned (.bool z) ∧ w = w' := by
  have := isFrom_c x a b w
  rwa [h] at this
theorem below_newF (w : World) (o : Obj) : Below w.heap.size w (w.alloc o) := (Below.refl _ _).alloc (Nat.le_refl _) _
set_option maxRecDepth 100000 in
set_option maxHeartbeats 4000000 in
theorem check_k (f : FrD) (w : World) : Calls Try.prog 18 #[FV f] w fun e w' => e = .returned (.int .i64 (errF f)) ∧ Below w.heap.size w w' := by
  obtain ⟨kind, robot, seq, cell, flag⟩ := f
  show Calls _ _ #[.agg #[.int .i64 kind, .int .i64 robot, .int .u64 seq, .int .i64 cell, .int .i64 flag]] w _
  have HW := Lib.hid (below_newF w (.cells #[.int .i64 kind, .int .i64 robot, .int .u64 seq, .int .i64 cell, .int .i64 flag] 24))
  by_cases hk : kind = 1 ∨ kind = 2 ∨ kind = 3
  · have key : ∀ (z : Int), okF ⟨kind, robot, seq, cell, flag⟩ = true ∧ z = 0 ∨ okF ⟨kind, robot, seq, cell, flag⟩ = false ∧ z = 19 → z = errF ⟨kind, robot, seq, cell, flag⟩ := fun z hz => by
      unfold errF
      rw [if_pos hk]
      rcases hz with ⟨h1, h2⟩ | ⟨h1, h2⟩ <;> rw [h1, h2] <;> rfl
    have K := Lib.hid key
    clear key
    by_cases hs : seq < 1
    · have HR : Hid (errF ⟨kind, robot, seq, cell, flag⟩ = 19) := Lib.hid (K.out 19 (.inr ⟨by unfold okF; rw [decide_eq_false (by show ¬ 1 ≤ seq; omega)]; rfl, rfl⟩)).symm
      rcases hk with rfl | rfl | rfl
      all_goals
        go_enter Try.func18, Try.ntmps18
        go_wp2
        go_ret
        exact ⟨by rw [HR.out]; rfl, HW.out⟩
    · have hs' : decide (seq < 1) = false := by simpa using hs
      have hs1 : decide (1 ≤ seq) = true := by simp; omega
      rcases h1 : fromB 0 7 robot with _ | _
      · have HR : Hid (errF ⟨kind, robot, seq, cell, flag⟩ = 19) := Lib.hid (K.out 19 (.inr ⟨by unfold okF; simp [h1], rfl⟩)).symm
        have C1 := Lib.hid (isFrom_k robot 0 7 false h1)
        clear h1 hs1 K
        rcases hk with rfl | rfl | rfl
        all_goals
          go_enter Try.func18, Try.ntmps18
          go_wp2_with (go_at_call 20; refine (C1.out _).mono ?_; rintro e w' ⟨rfl, rfl⟩)
          go_ret
          exact ⟨by rw [HR.out]; rfl, HW.out⟩
      · have C1 := Lib.hid (isFrom_k robot 0 7 true h1)
        rcases h2 : fromB 0 (lastCell kind) cell with _ | _
        · have HR : Hid (errF ⟨kind, robot, seq, cell, flag⟩ = 19) := Lib.hid (K.out 19 (.inr ⟨by unfold okF; simp [h2], rfl⟩)).symm
          have C2 := Lib.hid (isFrom_k cell 0 (lastCell kind) false h2)
          clear h1 hs1 h2 K
          rcases hk with rfl | rfl | rfl
          all_goals
            simp only [lastCell] at C2
            go_enter Try.func18, Try.ntmps18
            go_wp2_with fail
            refine (C1.out _).mono ?_; rintro e w' ⟨rfl, rfl⟩
            go_wp2_with fail
            refine (C2.out _).mono ?_; rintro e w' ⟨rfl, rfl⟩
            go_wp2_with fail
            go_ret
            exact ⟨by rw [HR.out]; rfl, HW.out⟩
        · have C2 := Lib.hid (isFrom_k cell 0 (lastCell kind) true h2)
          obtain ⟨z, h3⟩ : ∃ z, fromB (firstFlag kind) (lastFlag kind) flag = z := ⟨_, rfl⟩
          have C3 := Lib.hid (isFrom_k flag (firstFlag kind) (lastFlag kind) z h3)
          have HR : Hid (errF ⟨kind, robot, seq, cell, flag⟩ = if z then 0 else 19) := Lib.hid (by
            refine (K.out _ ?_).symm
            have e : okF ⟨kind, robot, seq, cell, flag⟩ = z := by
              unfold okF
              simp only [h1, h2, h3, hs1, Bool.true_and]
            cases z
            · exact .inr ⟨e, rfl⟩
            · exact .inl ⟨e, rfl⟩)
          clear h1 hs1 h2 h3 K
          rcases hk with rfl | rfl | rfl
          all_goals
            simp only [lastCell, firstFlag, lastFlag] at C2 C3
            rcases z with _ | _
            all_goals
              go_enter Try.func18, Try.ntmps18
              go_wp2_with fail
              refine (C1.out _).mono ?_; rintro e w' ⟨rfl, rfl⟩
              go_wp2_with fail
              refine (C2.out _).mono ?_; rintro e w' ⟨rfl, rfl⟩
              go_wp2_with fail
              refine (C3.out _).mono ?_; rintro e w' ⟨rfl, rfl⟩
              go_wp2_with fail
              go_ret
              exact ⟨by rw [HR.out]; rfl, HW.out⟩
  · have HR : Hid (errF ⟨kind, robot, seq, cell, flag⟩ = 22) := Lib.hid (by unfold errF; rw [if_neg hk])
    have k1 : (kind == 1) = false := by rw [beq_eq_false_iff_ne]; omega
    have k2 : (kind == 2) = false := by rw [beq_eq_false_iff_ne]; omega
    have k3 : (kind == 3) = false := by rw [beq_eq_false_iff_ne]; omega
    clear hk
    go_enter Try.func18, Try.ntmps18
    go_wp2
    go_ret
    exact ⟨by rw [HR.out]; rfl, HW.out⟩
end Go.Proofs.Ytehahlnpgkhamaa
