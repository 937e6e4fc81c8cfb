/- FieldsNumbers returns true: every number in range is read back from its decimal form, and no other number is. -/
import Derived.Test.YtngapogkhpnieaaDoorFdKnown
import Derived.Test.YtngapogkhpnieaaDoorFdDigits
namespace Go.Proofs.YtngapogkhpnieaaDoor
open Go.RowKit Fl
attribute [local go_sem] bget

theorem bappC (c : UInt8) (l : List UInt8) : (⟨#[c]⟩ : ByteArray) ++ ⟨l.toArray⟩ = ⟨(c :: l).toArray⟩ := bapp1 c l

set_option maxRecDepth 100000 in
set_option maxHeartbeats 2000000 in
theorem fieldsNumbers_c (n m : Int) (w : World) (hn : -9223372036854775808 ≤ n ∧ n ≤ 9223372036854775807) (hm : w.cell? ⟨0, 0, none⟩ = some (.int .i64 m)) : Calls Tryd.prog 8 #[.int .i64 n] w fun e w' => e = .returned (.bool true) ∧ Below w.heap.size w w' := by
  have C := Lib.hid (known_c m w hm)
  clear hm
  obtain ⟨hn1, hn2⟩ := hn
  go_enter Tryd.func8, Tryd.ntmps8
  go_wp2_with fail
  refine C.out.mono ?_
  rintro e w1 ⟨rfl, hb1⟩
  go_wp2_with fail
  have hlo : -19998 < n.tmod 19998 := by
    have := Int.lt_tmod_of_pos n (show (0 : Int) < 19998 by decide); omega
  have hhi : n.tmod 19998 < 19998 := Int.tmod_lt_of_pos n (by decide)
  generalize n.tmod 19998 = sm at *
  clear hn1 hn2
  have D := Lib.hid (fun w => digits_c sm w (by omega) (by omega))
  have hlen := dec_length sm
  have hnum := num_dec sm (by omega) (by omega)
  have N2 := Lib.hid (fun w => Number_none [45, 48] w (by decide) k_num2)
  have N3 := Lib.hid (fun w => Number_none (43 :: dec sm) w (by simp; omega) (num_plus _))
  have N4 := Lib.hid (fun w => Number_none (48 :: dec sm) w (by simp; omega) (num_zero (dec_ne sm)))
  have hap1 := bapp1 43 (dec sm)
  have hap2 := bapp1 48 (dec sm)
  refine (D.out _).mono ?_
  rintro e w2 ⟨rfl, hb2⟩
  by_cases hr : -9999 ≤ sm ∧ sm ≤ 9999
  · rw [if_pos hr] at hnum
    have N1 := Lib.hid (fun w => Number_some (dec sm) sm w (by omega) hnum)
    clear hnum
    obtain ⟨hr1, hr2⟩ := hr
    go_wp2_with fail
    refine (N1.out _).mono ?_
    rintro e w3 ⟨rfl, rfl⟩
    go_wp2_with fail
    refine (N2.out _).mono ?_
    rintro e w3 ⟨rfl, rfl⟩
    go_wp2_with fail
    refine (D.out _).mono ?_
    rintro e w3 ⟨rfl, hb3⟩
    go_wp2_with fail
    refine (N3.out _).mono ?_
    rintro e w4 ⟨rfl, rfl⟩
    go_wp2_with fail
    refine (D.out _).mono ?_
    rintro e w5 ⟨rfl, hb5⟩
    go_wp2_with fail
    refine (N4.out _).mono ?_
    rintro e w6 ⟨rfl, rfl⟩
    go_wp2_with fail
    go_ret
    exact ⟨rfl, below_later (below_later (below_later hb1 hb2) hb3) hb5⟩
  · rw [if_neg hr] at hnum
    have N1 := Lib.hid (fun w => Number_none (dec sm) w (by omega) hnum)
    clear hnum
    have hr' : sm < -9999 ∨ 9999 < sm := by omega
    clear hr
    rcases hr' with hr | hr
    all_goals
      go_wp2_with fail
      refine (N1.out _).mono ?_
      rintro e w3 ⟨rfl, rfl⟩
      go_wp2_with fail
      refine (N2.out _).mono ?_
      rintro e w3 ⟨rfl, rfl⟩
      go_wp2_with fail
      refine (D.out _).mono ?_
      rintro e w3 ⟨rfl, hb3⟩
      go_wp2_with fail
      refine (N3.out _).mono ?_
      rintro e w4 ⟨rfl, rfl⟩
      go_wp2_with fail
      refine (D.out _).mono ?_
      rintro e w5 ⟨rfl, hb5⟩
      go_wp2_with fail
      refine (N4.out _).mono ?_
      rintro e w6 ⟨rfl, rfl⟩
      go_wp2_with fail
      go_ret
      exact ⟨rfl, below_later (below_later (below_later hb1 hb2) hb3) hb5⟩
end Go.Proofs.YtngapogkhpnieaaDoor
