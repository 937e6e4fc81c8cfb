/- Contract of the statements' sanity check on layer 1: it returns true. -/
import Derived.Test.YtngapogkhpnieaaDoorFdSame
import Derived.Test.YtngapogkhpnieaaDoorFdSameL
import Derived.Test.YtngapogkhpnieaaDoorFdNumber
import Derived.Test.YtngapogkhpnieaaDoorFdName
namespace Go.Proofs.YtngapogkhpnieaaDoor
open Go.RowKit Fl
attribute [local go_sem] bget

theorem lines_ok (l : List UInt8) (ls : List LineD) (m : Int) (w : World) (hm : w.cell? ⟨0, 0, none⟩ = some (.int .i64 m)) (hs : l.length ≤ maxLen) (h : linesT l = .ok ls) :
    Calls Tryd.prog 11 #[.string ⟨l.toArray⟩] w fun e w' => ∃ A c, e = .returned (.tuple #[.slice A ls.length c, .int .i64 0, .int .i64 0]) ∧ Below w.heap.size w w' ∧ LinesAt w' (.slice A ls.length c) ls :=
  (lines_c l m w hm hs).mono fun e w' hp => by
    unfold LinesPost at hp; rw [h] at hp
    obtain ⟨hb, v, he, hl⟩ := hp
    obtain ⟨A, c, fvs, rfl, hl'⟩ := hl
    exact ⟨A, c, he, hb, A, c, fvs, rfl, hl'⟩
theorem lines_err (l : List UInt8) (n k : Nat) (m : Int) (w : World) (hm : w.cell? ⟨0, 0, none⟩ = some (.int .i64 m)) (hs : l.length ≤ maxLen) (h : linesT l = .error (n, k)) :
    Calls Tryd.prog 11 #[.string ⟨l.toArray⟩] w fun e w' => e = .returned (.tuple #[.slice none 0 0, .int .i64 n, .int .i64 k]) ∧ Below w.heap.size w w' :=
  (lines_c l m w hm hs).mono fun e w' hp => by
    unfold LinesPost at hp; rw [h] at hp
    exact ⟨hp.2, hp.1⟩

theorem Number_none (l : List UInt8) (w : World) (hs : l.length ≤ 9223372036854775000) (h : num l = none) : Calls Tryd.prog 16 #[.string ⟨l.toArray⟩] w fun e w' => e = .returned (.tuple #[.int .i64 0, .bool false]) ∧ w = w' :=
  (Number_c l w hs).mono fun e w' ⟨he, hw⟩ => ⟨by rw [he, h]; rfl, hw⟩
theorem Number_some (l : List UInt8) (n : Int) (w : World) (hs : l.length ≤ 9223372036854775000) (h : num l = some n) : Calls Tryd.prog 16 #[.string ⟨l.toArray⟩] w fun e w' => e = .returned (.tuple #[.int .i64 n, .bool true]) ∧ w = w' :=
  (Number_c l w hs).mono fun e w' ⟨he, hw⟩ => ⟨by rw [he, h]; rfl, hw⟩
theorem Name_is (l : List UInt8) (b : Bool) (w : World) (hs : l.length ≤ maxLen) (h : name l = b) : Calls Tryd.prog 18 #[.string ⟨l.toArray⟩] w fun e w' => e = .returned (.bool b) ∧ w = w' :=
  h ▸ Name_c l w hs
abbrev kText : List UInt8 := [10, 10, 98, 108, 111, 99, 107, 32, 97, 32, 49, 32, 45, 50, 32, 35, 32, 102, 105, 114, 115, 116]
abbrev kFields : List (List UInt8) := [[98, 108, 111, 99, 107], [97], [49], [45, 50]]
theorem k_lines : linesT kText = .ok [(3, kFields)] := by rfl
theorem k_num1 : num [48, 48, 55] = none := by rfl
theorem k_num2 : num [45, 48] = none := by rfl
theorem k_num3 : num [45, 49, 50] = some (-12) := by rfl
theorem k_name1 : name [97, 45, 49] = true := by rfl
theorem k_name2 : name [49, 97] = false := by rfl

set_option maxRecDepth 100000 in
set_option maxHeartbeats 2000000 in
theorem known_c (m : Int) (w : World) (hm : w.cell? ⟨0, 0, none⟩ = some (.int .i64 m)) : Calls Tryd.prog 9 #[] w fun e w' => e = .returned (.bool true) ∧ Below w.heap.size w w' := by
  have C := Lib.hid (lines_ok kText [(3, kFields)] m w hm (by decide) k_lines)
  have N1 := Lib.hid (fun w => Number_none [48, 48, 55] w (by decide) k_num1)
  have N2 := Lib.hid (fun w => Number_none [45, 48] w (by decide) k_num2)
  have N3 := Lib.hid (fun w => Number_some [45, 49, 50] (-12) w (by decide) k_num3)
  have M1 := Lib.hid (fun w => Name_is [97, 45, 49] true w (by decide) k_name1)
  have M2 := Lib.hid (fun w => Name_is [49, 97] false w (by decide) k_name2)
  clear hm
  go_enter Tryd.func9, Tryd.ntmps9
  go_wp2_with fail
  refine C.out.mono ?_
  rintro e w1 ⟨A, c, rfl, hb, hl⟩
  obtain ⟨b, o, A', c', rfl, e1, e2, hh⟩ := hl.line (k := 0) (by decide)
  simp only [Nat.zero_mul, Nat.add_zero] at e1 e2
  clear hl
  go_wp2_with fail
  refine (N1.out _).mono ?_
  rintro e w2 ⟨rfl, rfl⟩
  go_wp2_with fail
  refine (N2.out _).mono ?_
  rintro e w2 ⟨rfl, rfl⟩
  go_wp2_with fail
  refine (N3.out _).mono ?_
  rintro e w2 ⟨rfl, rfl⟩
  go_wp2_with fail
  have h2 : Holds (w1.alloc (Obj.cells #[S [98, 108, 111, 99, 107], S [97], S [49], S [45, 50]] 9)) (some ⟨w1.heap.size, 0, none⟩) (kFields.map S) := by
    refine .inr ⟨_, 0, rfl, by simp, fun j hj => ?_⟩
    rw [Nat.zero_add, cell_of_row _ w1.heap.size j _ _ (0, 0) (heap_alloc_new w1 _)]
    simp at hj
    match j, hj with
    | 0, _ => rfl
    | 1, _ => rfl
    | 2, _ => rfl
    | 3, _ => rfl
  have CS := sameStrings_c A' (some ⟨w1.heap.size, 0, none⟩) c' 4 kFields kFields _ (hh.keep ((Below.refl _ _).alloc (Nat.le_refl _) _)) h2 (by decide) (by decide)
  rw [show decide (kFields = kFields) = true from by simp] at CS
  clear h2 hh
  refine CS.mono ?_
  clear CS
  rintro e w2 ⟨rfl, n, rfl⟩
  go_wp2_with fail
  refine (M1.out _).mono ?_
  rintro e w2 ⟨rfl, rfl⟩
  go_wp2_with fail
  refine (M2.out _).mono ?_
  rintro e w2 ⟨rfl, rfl⟩
  go_wp2_with fail
  go_ret
  exact ⟨rfl, below_drewN (hb.alloc hb.size _) n⟩
end Go.Proofs.YtngapogkhpnieaaDoor
