/- Contract of routes' openGraph, and routes' Distances, Hops. -/
import Derived.Test.YtcfnilemikenhaaRpHops
import Derived.Test.YtcfnilemikenhaaRdWo
namespace Go.Proofs.Ytcfnilemikenhaa
open Go Go.RowKit Fl

def allIn (n : Nat) (vs : List Int) : Bool := vs.all fun v => decide (0 ≤ v ∧ v < n)
def opE (g : GraphD) (m : Nat) (vs : List Int) : Int := if chkG g m = 0 then (if allIn g.length vs then 0 else 19) else chkG g m
def opL (g : GraphD) (s : List Bool) (vs : List Int) : GraphD := if opE g s.length vs = 0 then woG g s else []
theorem allIn_step {n : Nat} {vs : List Int} {k : Nat} (hk : k < vs.length) : allIn n (vs.drop k) = (decide (0 ≤ vs[k] ∧ vs[k] < n) && allIn n (vs.drop (k + 1))) := by
  unfold allIn
  rw [List.drop_eq_getElem_cons hk, List.all_cons]
set_option maxRecDepth 100000 in
set_option maxHeartbeats 4000000 in
theorem openGraph_c (A B V : Option Addr) (c d cv : Nat) (g : GraphD) (s : List Bool) (vs : List Int) (w : World) (hh : RowsAt w A g) (hs : Holds w B (s.map Bo)) (hv : Holds w V (vs.map Iv)) (hz : Sized g) (hvl : vs.length ≤ 24) :
    Calls Try.prog 27 #[.slice A g.length c, .slice B s.length d, .slice V vs.length cv] w (WoPost w (opL g s vs) (opE g s.length vs)) := by
  have CC := Lib.hid (devWithout_c A B c d g s w hh hs hz.1 hz.2)
  by_cases h0 : chkG g s.length = 0
  · have HW : Hid (woL g s = woG g s) := Lib.hid (by unfold woL; rw [if_pos h0])
    have hval : validG g = true := by
      rcases chkG_cases g s.length with h | h | h
      · exact h.2.1
      · omega
      · omega
    have hl24 := validG_len hval
    have HWL := Lib.hid (woG_length g s)
    have HE0 : Hid (allIn g.length vs = true → opE g s.length vs = 0 ∧ opL g s vs = woG g s) := Lib.hid (fun h => by
      have h1 : opE g s.length vs = 0 := by unfold opE; rw [if_pos h0, h]; rfl
      exact ⟨h1, by unfold opL; rw [if_pos h1]⟩)
    have HE1 : Hid (allIn g.length vs = false → opE g s.length vs = 19 ∧ opL g s vs = []) := Lib.hid (fun h => by
      have h1 : opE g s.length vs = 19 := by unfold opE; rw [if_pos h0, h]; rfl
      exact ⟨h1, by unfold opL; rw [if_neg (by rw [h1]; decide)]⟩)
    have HV := Lib.hid hv
    have HSt : Hid (∀ (k : Nat) (hk : k < vs.length), allIn g.length (vs.drop k) = (decide (0 ≤ vs[k] ∧ vs[k] < g.length) && allIn g.length (vs.drop (k + 1)))) := Lib.hid (fun k hk => allIn_step hk)
    have HEnd : Hid (allIn g.length (vs.drop vs.length) = true) := Lib.hid (by simp [allIn])
    have HS0 : Hid (allIn g.length (vs.drop 0) = allIn g.length vs) := Lib.hid (by rw [List.drop_zero])
    rw [h0] at CC
    clear hh hs hz h0 hval hv
    generalize opE g s.length vs = oE at *
    generalize opL g s vs = oL at *
    generalize allIn g.length vs = al at *
    go_enter Try.func27, Try.ntmps27
    go_wp2_with fail
    refine CC.out.mono ?_
    rintro e w1 ⟨u, rfl, own1, hb1⟩
    rw [HW.out] at own1
    obtain ⟨A1, c1, rfl, _⟩ := own1.at_
    rw [HWL.out] at own1 ⊢
    have HO := Lib.hid own1
    have HB := Lib.hid hb1
    have HV1 := Lib.hid (HV.out.keep hb1)
    clear own1 hb1 CC HW HV
    go_wp2
    go_loopw [11, 23] (fun _ v wr => ∃ (k : Nat), v = .int .i64 k ∧ k ≤ vs.length ∧ Hid (allIn g.length (vs.drop k) = al) ∧ w1 = wr) (fun _ v _ => vs.length - (intOf v).toNat)
    case atStart => exact ⟨0, rfl, Nat.zero_le _, HS0, rfl⟩
    case round =>
      clear HS0
      obtain ⟨k, rfl, hk, HA, rfl⟩ := hrel
      by_cases hlt : k < vs.length
      · obtain ⟨bv, ov, rfl, ev⟩ := HV1.out.iv hlt
        have HSk := Lib.hid (HSt.out k hlt)
        generalize vs[k] = x at *
        by_cases hin : 0 ≤ x ∧ x < g.length
        · have hd1 : decide (x < 0) = false := by simp; omega
          have hd2 : decide ((g.length : Int) ≤ x) = false := by simp; omega
          have HA2 : Hid (allIn g.length (vs.drop (k + 1)) = al) := Lib.hid (by rw [← HA.out, HSk.out, decide_eq_true hin, Bool.true_and])
          clear hin HSk
          go_wp2
          go_roundw
          case rel => exact ⟨k + 1, by go_num, by omega, HA2, trivial⟩
          case measure => simp [intOf]; omega
        · have hal : al = false := by rw [← HA.out, HSk.out, decide_eq_false hin, Bool.false_and]
          obtain ⟨he1, he2⟩ := HE1.out hal
          have hcase : decide (x < 0) = true ∨ decide (x < 0) = false ∧ decide ((g.length : Int) ≤ x) = true := by simp only [decide_eq_true_eq, decide_eq_false_iff_not]; omega
          subst he1 he2
          clear hin HSk HA hal HE0 HE1 HSt HEnd
          rcases hcase with h1 | ⟨h1, h2⟩
          all_goals
            go_wp2
            go_ret2
            exact ⟨_, rfl, rowsOwn_nil _ _, HB.out⟩
      · obtain rfl : k = vs.length := by omega
        obtain ⟨he1, he2⟩ := HE0.out (by rw [← HA.out, HEnd.out])
        have HX : Hid (oL = woG g s) := Lib.hid he2
        subst he1
        clear HE0 HE1 HSt HEnd HA he2
        go_wp2
        go_ret2
        exact ⟨_, rfl, by rw [HX.out]; exact HO.out, HB.out⟩
  · have he : opE g s.length vs = chkG g s.length := by unfold opE; rw [if_neg h0]
    have HL : Hid (opL g s vs = []) := Lib.hid (by unfold opL; rw [if_neg (by rw [he]; exact h0)])
    have hcase : chkG g s.length = 19 ∨ chkG g s.length = 20 := by
      rcases chkG_cases g s.length with h | h | h
      · exact absurd h.1 h0
      · exact .inl h
      · exact .inr h
    rw [he]
    clear hh hs hz he h0 hv
    generalize opL g s vs = oL at *
    rcases hcase with h | h
    all_goals
      rw [h] at CC ⊢
      clear h
      go_enter Try.func27, Try.ntmps27
      go_wp2_with fail
      refine CC.out.mono ?_
      rintro e w1 ⟨u, rfl, own1, hb1⟩
      obtain ⟨A1, c1, rfl, _⟩ := own1.at_
      have HB1 := Lib.hid hb1
      clear own1 hb1 CC
      go_wp2
      go_ret2
      exact ⟨_, rfl, by rw [HL.out]; exact rowsOwn_nil _ _, HB1.out⟩
theorem opE_two (g : GraphD) (m : Nat) (a b : Int) : opE g m [a, b] = twoE g m a b := by
  unfold opE twoE allIn
  simp
theorem opE_one (g : GraphD) (m : Nat) (a : Int) : opE g m [a] = twoE g m a a := by
  unfold opE twoE allIn
  simp
theorem opE_none (g : GraphD) (m : Nat) : opE g m [] = chkG g m := by
  unfold opE allIn
  split
  · rename_i h; simp [h]
  · rfl
end Go.Proofs.Ytcfnilemikenhaa
