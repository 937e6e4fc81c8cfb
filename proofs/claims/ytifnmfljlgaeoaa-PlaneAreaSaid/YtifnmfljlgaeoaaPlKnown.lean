/- The statements' example of layer 8. -/
import Derived.Test.YtifnmfljlgaeoaaPlBase
import Derived.Laws.Cover3
import Derived.WalkLawsBesides
namespace Go.Proofs.Ytifnmfljlgaeoaa
open Go Go.RowKit Fl

theorem holds_blkP {w : World} {n : Nat} {cs : Array Value} {e : TypeId} {fr : Nat × Nat} {l : List Value} (h : w.heap[n]? = some (.cells cs e fr)) (hl : cs.toList = l) : Holds w (some ⟨n, 0, none⟩) l := by
  subst hl
  exact .inr ⟨n, 0, rfl, block_lt h, fun j hj => by
    rw [cell_of_row w n _ cs e fr h]
    simp at hj
    simp [hj]⟩
theorem order_eq {a b : Nat} {x : Int} (h1 : IsF a x) (h2 : IsF b x) : (FloatKind.f64.format.order a b == some Ordering.eq) = true := by
  have h : FloatKind.f64.format.order a b = some Ordering.eq := (order_isF h1 h2).trans (by rw [Int.compare_eq_eq.2 rfl])
  rw [h]
  rfl
set_option maxRecDepth 100000 in
set_option maxHeartbeats 4000000 in
theorem known8_c (hA : DevAt) (hT : DevTurn) (hR : DevArea) (w : World) : Calls Try.prog 9 #[] w fun e w' => e = .returned (.bool true) ∧ Below w.heap.size w w' := by
  have C1 := Lib.hid (hT ⟨[], 0, 0⟩ ⟨[], 1, 0⟩ ⟨[], 1, 1⟩ w)
  rw [exTurn.1, exTurn.2] at C1
  have C2 := fun (A : Option Addr) (W : World) hh => hR A 4 [⟨[], 0, 0⟩, ⟨[], 1, 0⟩, ⟨[], 1, 1⟩, ⟨[], 0, 1⟩] W hh (by decide)
  rw [exArea.1, exArea.2] at C2
  have C2 := Lib.hid C2
  have C3 := hA ⟨[], 2, -3⟩
  rw [exB] at C3
  have C3 := Lib.hid C3
  clear hA hT hR
  go_enter Try.func9, Try.ntmps9
  go_wp2_with fail
  refine C1.out.mono ?_
  rintro e w1 ⟨rfl, hb1⟩
  have HB1 := Lib.hid hb1
  clear hb1 C1
  go_wp2_with fail
  have hl : Holds (w1.alloc (.cells #[Sv [], Iv 0, Iv 0, Sv [], Iv 1, Iv 0, Sv [], Iv 1, Iv 1, Sv [], Iv 0, Iv 1] 23)) (some ⟨w1.heap.size, 0, none⟩) (blockCells [⟨[], 0, 0⟩, ⟨[], 1, 0⟩, ⟨[], 1, 1⟩, ⟨[], 0, 1⟩]) := holds_blkP (heap_alloc_new w1 _) rfl
  have hba := below_newP w1 (.cells #[Sv [], Iv 0, Iv 0, Sv [], Iv 1, Iv 0, Sv [], Iv 1, Iv 1, Sv [], Iv 0, Iv 1] 23)
  refine (C2.out (some ⟨w1.heap.size, 0, none⟩) _ hl).mono ?_
  rintro e w2 ⟨rfl, hb2⟩
  have HB2 := Lib.hid (HB1.out.trans ((hba.trans (hb2.mono hba.size)).mono HB1.out.size))
  clear hb2 hl hba HB1 C2
  go_wp2_with fail
  refine (C3.out w2).mono ?_
  rintro e w3 ⟨v, rfl, ⟨re, im, rfl, i1, i2⟩, hb3⟩
  have o1 := order_eq i1 isF_two
  have o2 := order_eq i2 isF_minus3
  have HB3 := Lib.hid (HB2.out.trans (hb3.mono HB2.out.size))
  clear hb3 i1 i2 C3
  go_wp2
  go_ret
  exact ⟨rfl, HB3.out⟩
end Go.Proofs.Ytifnmfljlgaeoaa
