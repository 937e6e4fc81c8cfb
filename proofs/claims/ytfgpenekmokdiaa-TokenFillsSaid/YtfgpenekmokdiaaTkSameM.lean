/- Contract of the laws' comparison of lists of moves, for equal lists; the facts by which the two sides of TokenFills agree. -/
import Derived.Test.YtfgpenekmokdiaaMzBC
namespace Go.Proofs.Ytfgpenekmokdiaa
open Go Go.RowKit Fl

theorem move_cells {w : World} {A : Option Addr} {l : List MoveD} (h : Holds w A (moveCells l)) {k : Nat} (hk : k < l.length) : ∃ b o, A = some ⟨b, o, none⟩ ∧ w.cell? ⟨b, o + k * 3, none⟩ = some (.int .i64 l[k].tok) ∧ w.cell? ⟨b, o + k * 3 + 1, none⟩ = some (.int .i64 l[k].frm) ∧ w.cell? ⟨b, o + k * 3 + 2, none⟩ = some (.int .i64 l[k].dst) := by
  obtain ⟨m0, m1, m2⟩ := moveCells_at hk
  have h3 : k * 3 + 2 < (moveCells l).length := (List.getElem?_eq_some_iff.1 m2).1
  obtain ⟨b, o, hA, _, hc⟩ := h.at_ (show 0 < (moveCells l).length by omega)
  refine ⟨b, o, hA, ?_, ?_, ?_⟩
  · rw [hc (k * 3) (by omega)]; rw [List.getElem?_eq_getElem (by omega)] at m0; exact m0
  · rw [Nat.add_assoc, hc (k * 3 + 1) (by omega)]; rw [List.getElem?_eq_getElem (by omega)] at m1; exact m1
  · rw [Nat.add_assoc, hc (k * 3 + 2) (by omega)]; rw [List.getElem?_eq_getElem (by omega)] at m2; exact m2
set_option maxRecDepth 100000 in
set_option maxHeartbeats 1000000 in
theorem sameMovesE_c (A1 A2 : Option Addr) (c1 c2 : Nat) (l : List MoveD) (w : World) (h1 : Holds w A1 (moveCells l)) (h2 : Holds w A2 (moveCells l)) (hl : l.length ≤ 1000000000000000000) :
    Calls Try.prog 29 #[.slice A1 l.length c1, .slice A2 l.length c2] w fun e w' => e = .returned (.bool true) ∧ ∃ n, w' = w.drewN n := by
  have H1 := Lib.hid (fun k (hk : k < l.length) => move_cells h1 hk)
  have H2 := Lib.hid (fun k (hk : k < l.length) => move_cells h2 hk)
  have hne : ((l.length : Int) != (l.length : Int)) = false := by simp
  clear h1 h2
  go_enter Try.func29, Try.ntmps29
  go_wp2
  go_loopw [5] (fun i wr => ∃ k n : Nat, i = .int .i64 k ∧ k ≤ l.length ∧ wr = w.drewN n) (fun i _ => l.length - (intOf i).toNat)
  case atStart => exact ⟨0, 0, rfl, Nat.zero_le _, rfl⟩
  case round =>
    obtain ⟨k, n, rfl, hk, rfl⟩ := hrel
    by_cases hlt : k < l.length
    · obtain ⟨b1, o1, rfl, e0, e1, e2⟩ := H1.out k hlt
      obtain ⟨b2, o2, rfl, f0, f1, f2⟩ := H2.out k hlt
      generalize l[k] = m at *
      obtain ⟨x, y, z⟩ := m
      dsimp only at e0 e1 e2 f0 f1 f2
      have hx : (x != x) = false := by simp
      have hy : (y != y) = false := by simp
      have hz : (z != z) = false := by simp
      clear H1 H2
      go_wp2
      go_quiet (fail)
      go_wp2
      go_roundw
      case rel => exact ⟨k + 1, _, by go_num, by omega, rfl⟩
      case measure => simp [intOf]; omega
    · clear H1 H2
      go_wp2
      go_ret
      exact ⟨rfl, n, rfl⟩
end Go.Proofs.Ytfgpenekmokdiaa
