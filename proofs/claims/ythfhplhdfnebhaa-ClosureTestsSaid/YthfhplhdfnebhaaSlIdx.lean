/- slices.Index and slices.Contains of integers. -/
import Derived.Test.YthfhplhdfnebhaaGrHas
namespace Go.Proofs.Ythfhplhdfnebhaa
open Go Go.RowKit Fl

set_option maxRecDepth 100000 in
set_option maxHeartbeats 4000000 in
theorem index_c (A : Option Addr) (c : Nat) (r : List Int) (z : Int) (w : World) (hr : Holds w A (r.map Iv)) (hr24 : r.length ≤ 24) :
    Calls Try.prog 73 #[.slice A r.length c, .int .i64 z] w fun e w' => (∃ k : Int, e = .returned (.int .i64 k) ∧ (0 ≤ k ↔ z ∈ r)) ∧ w' = w := by
  have HR := Lib.hid hr
  clear hr
  go_enter Try.func73, Try.ntmps73
  go_wp2
  go_loop [8] (fun i => ∃ j : Nat, i = .int .i64 j ∧ j ≤ r.length ∧ Hid (∀ i (h : i < r.length), i < j → r[i] ≠ z)) (fun i => r.length - (intOf i).toNat)
  case atStart => exact ⟨0, rfl, Nat.zero_le _, Lib.hid (fun i _ h => by omega)⟩
  case round =>
    obtain ⟨j, rfl, hj, HP⟩ := hrel
    by_cases hjt : j < r.length
    · obtain ⟨b, o, rfl, e1⟩ := HR.out.iv hjt
      by_cases he : r[j] = z
      · have HE : Hid (z ∈ r) := Lib.hid (by rw [← he]; exact List.getElem_mem hjt)
        rw [he] at e1
        clear HP he
        go_wp2
        go_ret
        exact ⟨⟨_, rfl, ⟨fun _ => HE.out, fun _ => by omega⟩⟩, rfl⟩
      · have HN : Hid (∀ i (h : i < r.length), i < j + 1 → r[i] ≠ z) := Lib.hid (fun i hi h2 => by
          rcases Nat.lt_succ_iff_lt_or_eq.1 h2 with h3 | rfl
          · exact HP.out i hi h3
          · exact he)
        have h1 : (z == r[j]) = false := by rw [beq_eq_false_iff_ne]; exact fun e => he e.symm
        have h2 : ¬ z = r[j] := fun e => he e.symm
        clear HP
        generalize r[j] = y at *
        go_wp2
        go_round
        case rel => exact ⟨j + 1, by go_num, by omega, HN⟩
        case measure => simp [intOf]; omega
    · have HE : Hid (¬ z ∈ r) := Lib.hid (fun h => by
        obtain ⟨i, hi, e⟩ := List.mem_iff_getElem.1 h
        exact HP.out i hi (by omega) e)
      clear HP
      go_wp2
      go_ret
      exact ⟨⟨_, rfl, ⟨fun h => by omega, fun h => absurd h HE.out⟩⟩, rfl⟩
set_option maxRecDepth 100000 in
set_option maxHeartbeats 4000000 in
theorem contains_c (A : Option Addr) (c : Nat) (r : List Int) (z : Int) (w : World) (hr : Holds w A (r.map Iv)) (hr24 : r.length ≤ 24) :
    Calls Try.prog 66 #[.slice A r.length c, .int .i64 z] w fun e w' => e = .returned (.bool (decide (z ∈ r))) ∧ w' = w := by
  have CI := Lib.hid (index_c A c r z w hr hr24)
  clear hr
  go_enter Try.func66, Try.ntmps66
  go_wp2_with fail
  refine CI.out.mono ?_
  rintro e w1 ⟨⟨k, rfl, hk⟩, rfl⟩
  have HK := Lib.hid hk
  clear hk CI
  go_wp2
  go_ret
  exact ⟨gr_bool (decide_eq_decide.2 HK.out), rfl⟩
theorem cont_q (A : Option Addr) (c i : Nat) (l : List Int) (x : Int) (w : World) (hh : Holds w A (l.map Iv)) (hi : i ≤ l.length) (h24 : l.length ≤ 24) :
    Calls Try.prog 66 #[.slice A i c, .int .i64 x] w fun e w' => e = .returned (.bool (decide (x ∈ l.take i))) ∧ w' = w := by
  have e : (l.take i).length = i := by rw [List.length_take]; omega
  have h2 : Holds w A ((l.take i).map Iv) := by
    rcases hh with h | ⟨b, o, hA, hb, hc⟩
    · left; have : l = [] := by simpa using h
      subst this; simp
    · right
      refine ⟨b, o, hA, hb, fun j hj => ?_⟩
      rw [hc j (by simp at hj ⊢; omega)]
      simp
  have h3 := contains_c A c (l.take i) x w h2 (by omega)
  rw [e] at h3
  exact h3
end Go.Proofs.Ythfhplhdfnebhaa
