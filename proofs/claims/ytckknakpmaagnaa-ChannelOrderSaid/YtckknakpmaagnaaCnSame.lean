/- Same of the reference, for equal lists of frames; count of the laws. -/
import Derived.Test.YtckknakpmaagnaaCnMem
import Derived.BigQuiet
namespace Go.Proofs.Ytckknakpmaagnaa
open Go Go.RowKit Fl

set_option maxRecDepth 100000 in
set_option maxHeartbeats 1000000 in
theorem sameF_c (A1 A2 : Option Addr) (c1 c2 n : Nat) (l : List FrD) (hn : l.length = n) (w : World) (h1 : Holds w A1 (frC l)) (h2 : Holds w A2 (frC l)) (hl : l.length ≤ 1000000000000000000) :
    Calls Try.prog 12 #[.slice A1 n c1, .slice A2 n c2] w fun e w' => e = .returned (.bool true) ∧ ∃ n, w' = w.drewN n := by
  subst hn
  have H1 := Lib.hid (fun k (hk : k < l.length) => holds_frm h1 hk)
  have H2 := Lib.hid (fun k (hk : k < l.length) => holds_frm h2 hk)
  have hne : ((l.length : Int) != (l.length : Int)) = false := by simp
  clear h1 h2
  go_enter Try.func12, Try.ntmps12
  go_wp2
  go_loopw [5] (fun i wr => ∃ k n : Nat, i = .int .i64 k ∧ k ≤ l.length ∧ wr = w.drewN n) (fun i _ => l.length - (intOf i).toNat)
  case atStart => exact ⟨0, 0, rfl, Nat.zero_le _, rfl⟩
  case round =>
    obtain ⟨k, n, rfl, hk, rfl⟩ := hrel
    by_cases hlt : k < l.length
    · obtain ⟨b1, o1, rfl, _, e0, e1, e2, e3, e4⟩ := H1.out k hlt
      obtain ⟨b2, o2, rfl, _, f0, f1, f2, f3, f4⟩ := H2.out k hlt
      have hef := fun W => eq_frame l[k] l[k] W
      simp only [decide_true] at hef
      have hgd := guard_frame
      generalize l[k] = m at *
      obtain ⟨x, y, z, u, v⟩ := m
      dsimp only at e0 e1 e2 e3 e4 f0 f1 f2 f3 f4
      clear H1 H2
      go_wp2
      go_quiet (fail)
      go_wp2
      go_roundw
      case rel => exact ⟨k + 1, _, by go_num, by omega, rfl⟩
      case measure => simp [intOf]; omega
    · clear H1 H2
      go_wp2
      go_ret
      exact ⟨rfl, n, rfl⟩
end Go.Proofs.Ytckknakpmaagnaa
