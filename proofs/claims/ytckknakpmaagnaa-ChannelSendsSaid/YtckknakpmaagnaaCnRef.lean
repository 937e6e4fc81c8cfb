/- Contracts of the reference's channels: Send, Deliver, Lose, Double of any lists; Same of equal lists. -/
import Derived.Test.YtckknakpmaagnaaCnDev
import Derived.Deep.RegionLaw
import Derived.Deep.RegionHeld3
import Derived.Deep.DeepCutAuto
import Derived.BigQuiet
namespace Go.Proofs.Ytckknakpmaagnaa
open Go Go.RowKit Fl

set_option maxRecDepth 100000 in
set_option maxHeartbeats 1000000 in
theorem refHas_c (A : Option Addr) (c : Nat) (l : List FrD) (i : Int) (w : World) : Calls Try.prog 21 #[.slice A l.length c, .int .i64 i] w fun e w' => e = .returned (.bool (hasI l i)) ∧ w = w' := by
  obtain ⟨z, hz⟩ : ∃ z, hasI l i = z := ⟨_, rfl⟩
  have hR : Hid (z = decide (l.length ≤ 6 ∧ 0 ≤ i ∧ i < (l.length : Int))) := Lib.hid (by rw [← hz]; rfl)
  rw [hz]
  clear hz
  generalize l.length = n at *
  by_cases h6 : n ≤ 6
  · by_cases h0 : 0 ≤ i
    · by_cases hn : i < (n : Int)
      · have HZ : Hid (z = true) := Lib.hid (by rw [hR.out]; exact decide_eq_true ⟨h6, h0, hn⟩)
        have h6' : decide ((n : Int) ≤ 6) = true := by simp; omega
        have h6i : (n : Int) ≤ 6 := by omega
        go_enter Try.func21, Try.ntmps21
        go_wp2
        go_ret
        exact ⟨by rw [HZ.out]; rfl, rfl⟩
      · have HZ : Hid (z = false) := Lib.hid (by rw [hR.out]; exact decide_eq_false (fun h => hn h.2.2))
        have hn' : decide (i < (n : Int)) = false := by simpa using hn
        have h6i : (n : Int) ≤ 6 := by omega
        go_enter Try.func21, Try.ntmps21
        go_wp2
        go_ret
        exact ⟨by rw [HZ.out]; rfl, rfl⟩
    · have HZ : Hid (z = false) := Lib.hid (by rw [hR.out]; exact decide_eq_false (fun h => h0 h.2.1))
      have h0' : decide (0 ≤ i) = false := by simpa using h0
      have h6i : (n : Int) ≤ 6 := by omega
      go_enter Try.func21, Try.ntmps21
      go_wp2
      go_ret
      exact ⟨by rw [HZ.out]; rfl, rfl⟩
  · have HZ : Hid (z = false) := Lib.hid (by rw [hR.out]; exact decide_eq_false (fun h => h6 h.1))
    have h6i : ¬ (n : Int) ≤ 6 := by omega
    have h6' : decide ((n : Int) ≤ 6) = false := by simp; omega
    go_enter Try.func21, Try.ntmps21
    go_wp2
    go_ret
    exact ⟨by rw [HZ.out]; rfl, rfl⟩
theorem refHas_k (A : Option Addr) (c : Nat) (l : List FrD) (i : Int) (z : Bool) (h : hasI l i = z) (w : World) : Calls Try.prog 21 #[.slice A l.length c, .int .i64 i] w fun e w' => e = .returned (.bool z) ∧ w = w' := by
  have := refHas_c A c l i w
  rwa [h] at this
set_option maxRecDepth 100000 in
set_option maxHeartbeats 1000000 in
theorem refSend_c (A : Option Addr) (c : Nat) (l : List FrD) (f : FrD) (w : World) (hh : Holds w A (frC l)) :
    Calls Try.prog 14 #[.slice A l.length c, FV f] w (SendPost l f w) := by
  obtain ⟨kind, robot, seq, cell, flag⟩ := f
  show Calls _ _ #[_, .agg #[.int .i64 kind, .int .i64 robot, .int .u64 seq, .int .i64 cell, .int .i64 flag]] w _
  have HB1 := Lib.hid (below_newF w (.cells (FC ⟨kind, robot, seq, cell, flag⟩) 25))
  have HX1 : Hid (FrAt (w.alloc (.cells (FC ⟨kind, robot, seq, cell, flag⟩) 25)) w.heap.size ⟨kind, robot, seq, cell, flag⟩) := Lib.hid (FrAt.new w _)
  have HH1 := Lib.hid (hh.keep HB1.out)
  have hs1 : w.heap.size < (w.alloc (.cells (FC ⟨kind, robot, seq, cell, flag⟩) 25)).heap.size := by simp
  by_cases h6 : l.length ≤ 6
  · have HS : Hid ((l.length < 6 ∧ sendL l ⟨kind, robot, seq, cell, flag⟩ = l ++ [⟨kind, robot, seq, cell, flag⟩]) ∨ (l.length = 6 ∧ sendL l ⟨kind, robot, seq, cell, flag⟩ = l)) := Lib.hid (sendL_cases _ h6)
    have h6n : ¬ 6 < l.length := by omega
    have h6i : ¬ (6 : Int) < (l.length : Int) := by omega
    have HA := Lib.hid (arg_all HH1.out c)
    clear hh
    go_enter Try.func14, Try.ntmps14
    go_wp2_with (at_builtin; refine app_frames _ rfl _ _ (by rfl) w.heap.size _ [] (by rfl) (own_nilF _ _) _ l (by rfl) HA.out (by simp; omega) (by simp) ?_)
    intro v2 w2 hO2 hg2
    have HB2 := Lib.hid (HB1.out.grown hg2 (by simp) (fun q hq => by simp [Value.ownBlock] at hq))
    have HX2 := Lib.hid (HX1.out.grown hg2 (by simp [Value.ownBlock]))
    obtain ⟨A2, c2, rfl, hc2⟩ := own_form hO2
    have HO2 := Lib.hid hO2
    have hs2 : w.heap.size < w2.heap.size := Nat.lt_of_lt_of_le hs1 hg2.size
    clear hO2 hg2 HX1 HA HH1 HB1 hs1
    rcases HS.out with ⟨hlt, hse⟩ | ⟨hl6, hse⟩
    · have HSe := Lib.hid hse
      clear hse HS
      obtain ⟨x0, x1, x2, x3, x4⟩ := HX2.out.cell
      have hlt6 : (l.length : Int) < 6 := by omega
      go_wp2_with (at_builtin; refine app_frames _ rfl _ _ (by rfl) w.heap.size _ l (by rfl) ((HO2.out.keep (below_newF _ _))) _ [⟨kind, robot, seq, cell, flag⟩] (by rfl) (arg_box (FrAt.new _ _) 1) (by simp; omega) (by simp; omega) ?_)
      intro v5 w5 hO5 hg5
      have HB5 := Lib.hid ((HB2.out.alloc (by omega) (.cells (FC ⟨kind, robot, seq, cell, flag⟩) 25)).grown hg5 (by simp; omega) (own_base HO2.out))
      have HO5 := Lib.hid hO5
      clear hO5 hg5 HO2 HX2 HB2 x0 x1 x2 x3 x4
      go_wp2
      go_ret
      exact ⟨_, rfl, by rw [HSe.out]; exact HO5.out, HB5.out⟩
    · have HSe := Lib.hid hse
      have hn : ¬ (l.length : Int) < 6 := by omega
      clear hse HS HX2 hl6
      go_wp2
      go_ret
      exact ⟨_, rfl, by rw [HSe.out]; exact HO2.out, HB2.out⟩
  · have HS : Hid (sendL l ⟨kind, robot, seq, cell, flag⟩ = []) := Lib.hid (by unfold sendL; rw [if_neg h6])
    have h6n : 6 < l.length := by omega
    clear hh HX1 HH1
    go_enter Try.func14, Try.ntmps14
    go_wp2
    go_ret
    exact ⟨_, rfl, by rw [HS.out]; exact own_nilF _ _, HB1.out⟩
set_option maxRecDepth 100000 in
set_option maxHeartbeats 2000000 in
theorem refDel_c (A : Option Addr) (c : Nat) (l : List FrD) (i : Int) (w : World) (hh : Holds w A (frC l)) (hc : l.length ≤ c) :
    Calls Try.prog 11 #[.slice A l.length c, .int .i64 i] w (DelPost l i w) := by
  have HB0 : Hid (Below w.heap.size w (w.alloc (.cells #[.int .i64 0, .int .i64 0, .int .u64 0, .int .i64 0, .int .i64 0] 25))) := Lib.hid (below_newF w _)
  have HX0 : Hid (FrAt (w.alloc (.cells #[.int .i64 0, .int .i64 0, .int .u64 0, .int .i64 0, .int .i64 0] 25)) w.heap.size zeroF) := Lib.hid (FrAt.new w zeroF)
  have hsz : w.heap.size < (w.alloc (.cells #[.int .i64 0, .int .i64 0, .int .u64 0, .int .i64 0, .int .i64 0] 25)).heap.size := by simp
  rcases hz : hasI l i with _ | _
  · have HD := Lib.hid (hasI_no hz)
    have HZ := Lib.hid hz
    have HC := Lib.hid (refHas_k A c l i false hz)
    clear hh hz
    go_enter Try.func11, Try.ntmps11
    go_wp2_with fail
    generalize w.alloc (.cells #[.int .i64 0, .int .i64 0, .int .u64 0, .int .i64 0, .int .i64 0] 25) = w1 at *
    obtain ⟨x0, x1, x2, x3, x4⟩ := HX0.out.cell
    obtain ⟨y0, y1, y2, y3, y4⟩ := HX0.out.frozen
    have HP := Lib.hid (HX0.out.put5 zeroF)
    refine (HC.out _).mono ?_
    rintro e w2 ⟨rfl, rfl⟩
    go_wp2
    refine bodyPost_ret (results_frm3 rfl _ _ w.heap.size zeroF _ _ rfl HP.out rfl rfl) rfl ?_
    refine ⟨_, by rw [HD.out.1, HZ.out]; rfl, by rw [HD.out.2.1]; exact own_nilF _ _, ?_⟩
    exact put5_below (f := zeroF) HB0.out (Nat.le_refl _)
  · obtain ⟨n, rfl⟩ := Int.eq_ofNat_of_zero_le (hasI_iff.1 hz).2.1
    have HZ := Lib.hid hz
    have HC := Lib.hid (refHas_k A c l n true hz)
    obtain ⟨hn, h6, hd1, hd2, _⟩ := hasI_at hz
    have HD := Lib.hid (And.intro hd1 hd2)
    obtain ⟨b, o, rfl, hb0, hx⟩ := holds_frm hh hn
    have HFx : Hid (∀ W, Below w.heap.size w W → FrmIn W b (o + n * 5) l[n]) := Lib.hid (fun W hW => hx.keep hW)
    have HTk : Hid (∀ W, Below w.heap.size w W → ArgFr W (.slice (some ⟨b, o, none⟩) n c) (l.take n)) := Lib.hid (fun W hW => by
      have := arg_part (hh.keep hW) 0 n c (by omega)
      simpa using this)
    obtain ⟨m, hm⟩ : ∃ m, m = n + 1 := ⟨_, rfl⟩
    have hw1 : IntKind.i64.wrap ((n : Int) + 1) = (m : Int) := by rw [hm]; exact wrap_inF (by omega)
    obtain ⟨k, hk⟩ : ∃ k, k + 1 = l.length := ⟨l.length - 1, by omega⟩
    have hml0 : m ≤ l.length := by omega
    have HDr : Hid (dropL l n = l.take n ++ l.drop m) := Lib.hid (by rw [hm]; rfl)
    have HTl : Hid (([] ++ l.take n).length = n) := Lib.hid (by rw [List.nil_append, List.length_take]; omega)
    have HDl : Hid (([] ++ l.take n ++ l.drop m).length = k) := Lib.hid (by rw [List.nil_append, List.length_append, List.length_take, List.length_drop]; omega)
    have hnl : (n : Int) < (l.length : Int) := by omega
    have hmc : (m : Int) ≤ (c : Int) := by omega
    have hml : (m : Int) ≤ (l.length : Int) := by omega
    have hlc : (l.length : Int) ≤ (c : Int) := by omega
    have hnc : (n : Int) ≤ (c : Int) := by omega
    have hm0 : (0 : Int) ≤ (m : Int) := by omega
    have hn0 : (0 : Int) ≤ (n : Int) := by omega
    have hk6 : k ≤ 5 := by omega
    have HDm : Hid (∀ W, Below w.heap.size w W → ArgFr W (.slice (some ⟨b, o + m * 5, none⟩) (l.length - m) (c - m)) (l.drop m)) := Lib.hid (fun W hW => by
      have h1 := arg_part (hh.keep hW) m (l.length - m) (c - m) (by omega)
      rwa [List.take_of_length_le (by rw [List.length_drop]; omega)] at h1)
    clear hh hz hd1 hd2 hx hm hk
    generalize l[n] = f at *
    obtain ⟨kind, robot, seq, cell, flag⟩ := f
    go_enter Try.func11, Try.ntmps11
    go_wp2_with fail
    generalize w.alloc (.cells #[.int .i64 0, .int .i64 0, .int .u64 0, .int .i64 0, .int .i64 0] 25) = w1 at *
    refine (HC.out _).mono ?_
    rintro e w2 ⟨rfl, rfl⟩
    have HP := Lib.hid (fun (W : World) (hW : Below w1.heap.size w1 W) => (HX0.out.keep hW).put5 ⟨kind, robot, seq, cell, flag⟩)
    obtain ⟨x0, x1, x2, x3, x4⟩ := HFx.out w1 HB0.out
    dsimp only at x0 x1 x2 x3 x4
    by_cases hcm : c = m
    · have HE : Hid (l.drop m = []) := Lib.hid (List.drop_eq_nil_of_le (by omega))
      subst hcm
      go_wp2_with fail
      have hb1 : Below w1.heap.size w1 w1 := Below.refl _ _
      have hb10 := HB0.out
      go_region_held3 (fun W => W.cell? ⟨b, o + n * 5, none⟩ = some (.int .i64 kind) ∧ W.cell? ⟨b, o + n * 5 + 1, none⟩ = some (.int .i64 robot) ∧ W.cell? ⟨b, o + n * 5 + 2, none⟩ = some (.int .u64 seq) ∧ W.cell? ⟨b, o + n * 5 + 3, none⟩ = some (.int .i64 cell) ∧ W.cell? ⟨b, o + n * 5 + 4, none⟩ = some (.int .i64 flag)) (exact HFx.out _ (by repeat (first | assumption | (with_reducible exact Below.refl _ _) | (with_reducible refine Below.drew ?_) | (with_reducible refine below_put ?_ (Nat.le_refl _))))) (first | (refine step_frames w1 _ (by rfl) _ _ (by rfl) (.slice none 0 0) [] (by rfl) (own_nilF _ _) _ (l.take n) (by rfl) (HTk.out _ (by repeat (first | assumption | (with_reducible exact Below.refl _ _) | (with_reducible refine Below.drew ?_) | (with_reducible refine below_put ?_ (Nat.le_refl _))))) n HTl.out (by omega) (by repeat (first | assumption | (with_reducible exact Below.refl _ _) | (with_reducible refine Below.drew ?_) | (with_reducible refine below_put ?_ (Nat.le_refl _)))) ?_; intro A3 c3 wA hc3 hO3 hbA; have hbA0 : Below w.heap.size w wA := HB0.out.trans (hbA.mono (by omega))) | (refine step_frames w1 _ (by rfl) _ _ (by rfl) (.slice A3 n c3) ([] ++ l.take n) (by rfl) hO3 _ (l.drop c) (by rfl) (by rw [HE.out]; exact arg_none _ _ _) k HDl.out (by omega) (by repeat (first | assumption | (with_reducible exact Below.refl _ _) | (with_reducible refine Below.drew ?_) | (with_reducible refine below_put ?_ (Nat.le_refl _)))) ?_; intro A4 c4 wB hc4 hO4 hbB; have hbB0 : Below w.heap.size w wB := HB0.out.trans (hbB.mono (by omega)); obtain ⟨z0, z1, z2, z3, z4⟩ := (HX0.out.keep hbB).cell; obtain ⟨y0, y1, y2, y3, y4⟩ := (HX0.out.keep hbB).frozen))
      all_goals
        have HP2 := Lib.hid (HP.out wB hbB)
        have HO5 : Hid (OwnFr (put5W wB w.heap.size ⟨kind, robot, seq, cell, flag⟩) w1.heap.size (.slice A4 k c4) (dropL l n)) := Lib.hid (own_farF (by rw [HDr.out]; exact hO4) (put5_grown _ _ _) hsz)
        have HB5 := Lib.hid hbB0
        clear hO4 hO3 hbA hbA0 hbB hbB0 HTk HDm HFx HP
        go_wp2_with fail
        refine bodyPost_ret (results_frm3 rfl _ _ w.heap.size ⟨kind, robot, seq, cell, flag⟩ _ _ rfl HP2.out rfl rfl) rfl ?_
        refine ⟨_, by rw [HD.out.1, HZ.out]; rfl, by rw [HD.out.2]; exact ownsRow_base HO5.out (by omega), ?_⟩
        exact put5_below (f := ⟨kind, robot, seq, cell, flag⟩) HB5.out (Nat.le_refl _)
    · have hcm' : ¬ m = c := fun h => hcm h.symm
      go_wp2_with fail
      have hb1 : Below w1.heap.size w1 w1 := Below.refl _ _
      have hb10 := HB0.out
      go_region_held3 (fun W => W.cell? ⟨b, o + n * 5, none⟩ = some (.int .i64 kind) ∧ W.cell? ⟨b, o + n * 5 + 1, none⟩ = some (.int .i64 robot) ∧ W.cell? ⟨b, o + n * 5 + 2, none⟩ = some (.int .u64 seq) ∧ W.cell? ⟨b, o + n * 5 + 3, none⟩ = some (.int .i64 cell) ∧ W.cell? ⟨b, o + n * 5 + 4, none⟩ = some (.int .i64 flag)) (exact HFx.out _ (by repeat (first | assumption | (with_reducible exact Below.refl _ _) | (with_reducible refine Below.drew ?_) | (with_reducible refine below_put ?_ (Nat.le_refl _))))) (first | (refine step_frames w1 _ (by rfl) _ _ (by rfl) (.slice none 0 0) [] (by rfl) (own_nilF _ _) _ (l.take n) (by rfl) (HTk.out _ (by repeat (first | assumption | (with_reducible exact Below.refl _ _) | (with_reducible refine Below.drew ?_) | (with_reducible refine below_put ?_ (Nat.le_refl _))))) n HTl.out (by omega) (by repeat (first | assumption | (with_reducible exact Below.refl _ _) | (with_reducible refine Below.drew ?_) | (with_reducible refine below_put ?_ (Nat.le_refl _)))) ?_; intro A3 c3 wA hc3 hO3 hbA; have hbA0 : Below w.heap.size w wA := HB0.out.trans (hbA.mono (by omega))) | (refine step_frames w1 _ (by rfl) _ _ (by rfl) (.slice A3 n c3) ([] ++ l.take n) (by rfl) hO3 _ (l.drop m) (by rfl) (HDm.out _ (by repeat (first | assumption | (with_reducible exact Below.refl _ _) | (with_reducible refine Below.drew ?_) | (with_reducible refine below_put ?_ (Nat.le_refl _))))) k HDl.out (by omega) (by repeat (first | assumption | (with_reducible exact Below.refl _ _) | (with_reducible refine Below.drew ?_) | (with_reducible refine below_put ?_ (Nat.le_refl _)))) ?_; intro A4 c4 wB hc4 hO4 hbB; have hbB0 : Below w.heap.size w wB := HB0.out.trans (hbB.mono (by omega)); obtain ⟨z0, z1, z2, z3, z4⟩ := (HX0.out.keep hbB).cell; obtain ⟨y0, y1, y2, y3, y4⟩ := (HX0.out.keep hbB).frozen))
      all_goals
        have HP2 := Lib.hid (HP.out wB hbB)
        have HO5 : Hid (OwnFr (put5W wB w.heap.size ⟨kind, robot, seq, cell, flag⟩) w1.heap.size (.slice A4 k c4) (dropL l n)) := Lib.hid (own_farF (by rw [HDr.out]; exact hO4) (put5_grown _ _ _) hsz)
        have HB5 := Lib.hid hbB0
        clear hO4 hO3 hbA hbA0 hbB hbB0 HTk HDm HFx HP
        go_wp2_with fail
        refine bodyPost_ret (results_frm3 rfl _ _ w.heap.size ⟨kind, robot, seq, cell, flag⟩ _ _ rfl HP2.out rfl rfl) rfl ?_
        refine ⟨_, by rw [HD.out.1, HZ.out]; rfl, by rw [HD.out.2]; exact ownsRow_base HO5.out (by omega), ?_⟩
        exact put5_below (f := ⟨kind, robot, seq, cell, flag⟩) HB5.out (Nat.le_refl _)
set_option maxRecDepth 100000 in
set_option maxHeartbeats 1000000 in
theorem refLose_c (A : Option Addr) (c : Nat) (l : List FrD) (i : Int) (w : World) (hh : Holds w A (frC l)) (hc : l.length ≤ c) :
    Calls Try.prog 16 #[.slice A l.length c, .int .i64 i] w (LosePost l i w) := by
  have C := Lib.hid (refDel_c A c l i w hh hc)
  clear hh
  obtain ⟨f, hf⟩ : ∃ f, delF l i = f := ⟨_, rfl⟩
  obtain ⟨z, hz⟩ : ∃ z, hasI l i = z := ⟨_, rfl⟩
  have HZ := Lib.hid hz
  unfold DelPost at C
  rw [hf, hz] at C
  clear hf hz
  obtain ⟨kind, robot, seq, cell, flag⟩ := f
  go_enter Try.func16, Try.ntmps16
  go_wp2_with fail
  refine C.out.mono ?_
  rintro e w2 ⟨u, rfl, ho, hb⟩
  have HO := Lib.hid (OwnFr.keep ho (below_newF w2 (.cells (FC ⟨kind, robot, seq, cell, flag⟩) 25)))
  have HB := Lib.hid (hb.alloc hb.size (.cells (FC ⟨kind, robot, seq, cell, flag⟩) 25))
  clear ho hb C
  go_wp2
  go_ret2
  exact ⟨_, by rw [HZ.out]; rfl, HO.out, HB.out⟩
set_option maxRecDepth 100000 in
set_option maxHeartbeats 1000000 in
theorem refDbl_c (A : Option Addr) (c : Nat) (l : List FrD) (i : Int) (w : World) (hh : Holds w A (frC l)) :
    Calls Try.prog 18 #[.slice A l.length c, .int .i64 i] w (DblPost l i w) := by
  rcases hz : hasI l i with _ | _
  · have C := Lib.hid (refHas_k A c l i false hz w)
    have HD := Lib.hid (hasI_no hz).2.2
    have HZ := Lib.hid hz
    clear hh hz
    go_enter Try.func18, Try.ntmps18
    go_wp2_with fail
    refine C.out.mono ?_
    rintro e w2 ⟨rfl, rfl⟩
    go_wp2
    go_ret2
    exact ⟨_, by rw [HZ.out]; rfl, by rw [HD.out]; exact own_nilF _ _, Below.refl _ _⟩
  · obtain ⟨n, rfl⟩ := Int.eq_ofNat_of_zero_le (hasI_iff.1 hz).2.1
    have C := Lib.hid (refHas_k A c l n true hz w)
    have HZ := Lib.hid hz
    obtain ⟨hn, h6, _, _, hd⟩ := hasI_at hz
    have HD := Lib.hid hd
    obtain ⟨b, o, rfl, hb, x0, x1, x2, x3, x4⟩ := holds_frm hh hn
    have CS := Lib.hid (refSend_c (some ⟨b, o, none⟩) c l l[n] w hh)
    have hnl : (n : Int) < (l.length : Int) := by omega
    clear hh hz hd
    generalize l[n] = f at *
    obtain ⟨kind, robot, seq, cell, flag⟩ := f
    dsimp only at x0 x1 x2 x3 x4
    go_enter Try.func18, Try.ntmps18
    go_wp2_with fail
    refine C.out.mono ?_
    rintro e w2 ⟨rfl, rfl⟩
    go_wp2_with fail
    refine CS.out.mono ?_
    rintro e w3 ⟨u, rfl, ho, hb3⟩
    have HO := Lib.hid ho
    have HB := Lib.hid hb3
    clear ho hb3
    go_wp2
    go_ret2
    exact ⟨_, by rw [HZ.out]; rfl, by rw [HD.out]; exact HO.out, HB.out⟩
end Go.Proofs.Ytckknakpmaagnaa
