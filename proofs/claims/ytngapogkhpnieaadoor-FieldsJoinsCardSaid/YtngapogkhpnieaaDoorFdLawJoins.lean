/- FieldsJoins returns true: Join returns what the reference returns, for the given lines and for made ones. -/
import Derived.Test.YtngapogkhpnieaaDoorFdRefJoin
import Derived.Test.YtngapogkhpnieaaDoorFdLawBack
namespace Go.Proofs.YtngapogkhpnieaaDoor
open Go.RowKit Fl
attribute [local go_sem] bget

/-- Lines within what memory and the model's numbers hold. -/
def Within (ls : List LineI) : Prop := ls.length ≤ 8796093021952 ∧ (∀ x ∈ ls, x.2.length ≤ 8796093021952) ∧ (∀ x ∈ ls, ∀ f ∈ x.2, f.length ≤ maxLen) ∧ ∀ x ∈ ls, -9223372036854775808 ≤ x.1 ∧ x.1 ≤ 9223372036854775807
theorem made_within {ls : List LineD} {b : Nat} (hl : ls.length ≤ 5) (hm : madeTo 0 ls b) : Within (ls.map toI) := by
  have hall : ∀ (ls : List LineD) (a : Nat), madeTo a ls b → ∀ x ∈ ls, x.1 ≤ a + 3 * ls.length ∧ x.2.length ≤ 4 ∧ x.2.all fieldOk = true := by
    intro ls
    induction ls with
    | nil => intro a _ x hx; simp at hx
    | cons y r ih =>
      rintro a ⟨g1, g2, g3, g4, g5, g6⟩ x hx
      rcases List.mem_cons.1 hx with rfl | hx
      · exact ⟨by simp; omega, g4, g5⟩
      · have := ih _ g6 x hx
        exact ⟨by simp; omega, this.2⟩
  have hq := hall ls 0 hm
  have hx : ∀ x ∈ ls.map toI, ∃ y ∈ ls, x = toI y := fun x hx => by
    obtain ⟨y, hy, e⟩ := List.mem_map.1 hx
    exact ⟨y, hy, e.symm⟩
  refine ⟨by simp; omega, fun x h => ?_, fun x h f hf => ?_, fun x h => ?_⟩
  · obtain ⟨y, hy, rfl⟩ := hx x h
    have := (hq y hy).2.1
    show y.2.length ≤ _; omega
  · obtain ⟨y, hy, rfl⟩ := hx x h
    have := fieldOk_len (List.all_eq_true.1 (hq y hy).2.2 f hf)
    unfold maxLen; omega
  · obtain ⟨y, hy, rfl⟩ := hx x h
    have := (hq y hy).1
    show (-9223372036854775808 : Int) ≤ (y.1 : Int) ∧ (y.1 : Int) ≤ _
    omega

set_option maxRecDepth 100000 in
set_option maxHeartbeats 8000000 in
theorem fieldsJoins_c (A0 : Option Addr) (c0 : Nat) (l0 : List LineI) (A : Option Addr) (c : Nat) (zs : List Int) (m : Int) (w : World) (h0 : RawAt w A0 l0) (hw0 : Within l0) (hz : IntsAt w w.heap.size A zs) (hzl : zs.length ≤ maxLen) (hm : w.cell? ⟨0, 0, none⟩ = some (.int .i64 m)) :
    Calls Tryd.prog 5 #[.slice A0 l0.length c0, .slice A zs.length c] w fun e w' => e = .returned (.bool true) ∧ Below w.heap.size w w' := by
  have C := Lib.hid (known_c m w hm)
  have HZ := Lib.hid hz
  have HL := Lib.hid hzl
  have H0 := Lib.hid h0
  have HW0 := Lib.hid hw0
  clear hm hz hzl h0 hw0
  go_enter Tryd.func5, Tryd.ntmps5
  go_wp2_with fail
  refine C.out.mono ?_
  rintro e w1 ⟨rfl, hb1⟩
  go_wp2_with fail
  refine (linesMade_c A c zs w1 ((HZ.out.keep (Nat.le_refl _) hb1).more hb1.size) HL.out).mono ?_
  rintro e w2 ⟨ls, A2, c2, b2, rfl, _, hra, hls, hmade, hb2⟩
  have hb12 := below_later hb1 hb2
  have H02 := Lib.hid (H0.out.keep hb12)
  have HR2 := Lib.hid hra
  have HW2 := Lib.hid (made_within hls hmade)
  clear hb1 hb2 hra hmade C HZ HL H0
  go_wp2_with fail
  have hb2 : Below w2.heap.size w2 (w2.alloc (.cells #[.slice A0 l0.length c0, .slice A2 ls.length c2] 26)) := (Below.refl _ _).alloc (Nat.le_refl _) _
  have HC : Hid (∀ k, k < 2 → ∃ (Ak : Option Addr) (ck : Nat) (lk : List LineI), (w2.alloc (.cells #[.slice A0 l0.length c0, .slice A2 ls.length c2] 26)).cell? ⟨w2.heap.size, k, none⟩ = some (.slice Ak lk.length ck) ∧ RawAt (w2.alloc (.cells #[.slice A0 l0.length c0, .slice A2 ls.length c2] 26)) Ak lk ∧ Within lk) := Lib.hid (fun k hk => by
    match k, hk with
    | 0, _ => exact ⟨A0, c0, l0, by simp [go_sem], H02.out.keep hb2, HW0.out⟩
    | 1, _ => exact ⟨A2, c2, ls.map toI, by simp [go_sem], HR2.out.keep hb2, HW2.out⟩)
  have hbx := below_later hb12 hb2
  generalize w2.alloc (.cells #[.slice A0 l0.length c0, .slice A2 ls.length c2] 26) = wx at *
  generalize w2.heap.size = L at *
  clear H02 HR2 HW2 HW0 hb2 hb12
  go_loopw [6] (fun i wr => ∃ k : Nat, i = .int .i64 k ∧ k ≤ 2 ∧ Below wx.heap.size wx wr) (fun i _ => 2 - (intOf i).toNat)
  case atStart => exact ⟨0, rfl, by omega, Below.refl _ _⟩
  case round =>
    obtain ⟨k, rfl, hk, hb⟩ := hrel
    by_cases hlt : k < 2
    · obtain ⟨Ak, ck, lk, hcx, hrx, q1, q2, q3, q4⟩ := HC.out k hlt
      have hc := (hb.cell (p := ⟨L, k, none⟩) (World.block_lt_of_cell? _ _ hcx)).trans hcx
      have hrw := hrx.keep hb
      have JC := Lib.hid (join_c Ak ck lk wr hrw q1 q2 q3 q4)
      have RC := Lib.hid (fun w' (hb' : Below wr.heap.size wr w') => refJoin_c Ak ck lk w' (hrw.keep hb') q1 q2 q3 q4)
      clear hcx hrx hrw q1 q2 q3 q4
      rcases hj : joinT lk with n | t
      all_goals
        unfold JoinPost at JC RC
        rw [hj] at JC RC
        dsimp only at JC RC
        clear hj
        go_wp2_with fail
        refine JC.out.mono ?_
        rintro e w5 ⟨hb5, rfl⟩
        have hc5 := (hb5.cell (p := ⟨L, k, none⟩) (World.block_lt_of_cell? _ _ hc)).trans hc
        have RC5 := Lib.hid (RC.out w5 hb5)
        have hbw5 := below_later hb hb5
        clear JC RC hc hb hb5
        go_wp2_with fail
        refine RC5.out.mono ?_
        rintro e w6 ⟨hb6, rfl⟩
        have hbw6 := below_later hbw5 hb6
        clear RC5 hc5 hbw5 hb6
        go_wp2_with fail
        go_roundw
        case rel => exact ⟨k + 1, by go_num, by omega, hbw6⟩
        case measure => simp [intOf]; omega
    · go_wp2_with fail
      go_ret
      exact ⟨rfl, below_later hbx hb⟩
end Go.Proofs.YtngapogkhpnieaaDoor
