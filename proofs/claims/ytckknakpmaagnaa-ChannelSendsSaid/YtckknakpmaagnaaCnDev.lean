/- Contracts of channel: Send, Deliver, Lose, Double of any lists. -/
import Derived.Test.YtckknakpmaagnaaCnMem
namespace Go.Proofs.Ytckknakpmaagnaa
open Go Go.RowKit Fl

def SendPost (l : List FrD) (f : FrD) (w : World) (e : Ending) (w' : World) : Prop := ∃ u, e = .returned u ∧ OwnFr w' w.heap.size u (sendL l f) ∧ Below w.heap.size w w'
def LosePost (l : List FrD) (i : Int) (w : World) (e : Ending) (w' : World) : Prop := ∃ u, e = .returned (.tuple #[u, .bool (hasI l i)]) ∧ OwnFr w' w.heap.size u (delL l i) ∧ Below w.heap.size w w'
def DelPost (l : List FrD) (i : Int) (w : World) (e : Ending) (w' : World) : Prop := ∃ u, e = .returned (.tuple #[FV (delF l i), u, .bool (hasI l i)]) ∧ OwnFr w' w.heap.size u (delL l i) ∧ Below w.heap.size w w'
def DblPost (l : List FrD) (i : Int) (w : World) (e : Ending) (w' : World) : Prop := ∃ u, e = .returned (.tuple #[u, .bool (hasI l i)]) ∧ OwnFr w' w.heap.size u (dblL l i) ∧ Below w.heap.size w w'
theorem isChannel_c (A : Option Addr) (n c : Nat) (w : World) : Calls Try.prog 22 #[.slice A n c] w fun e w' => e = .returned (.bool (decide (n ≤ 6))) ∧ w = w' := by
  have HF : Hid (decide ((n : Int) ≤ 6) = decide (n ≤ 6)) := Lib.hid (decide_eq_decide.2 (by omega))
  go_enter Try.func22, Try.ntmps22
  go_wp2
  go_ret
  exact ⟨congrArg (fun b => Ending.returned (Value.bool b)) HF.out, rfl⟩
theorem isChannel_k (A : Option Addr) (n c : Nat) (z : Bool) (h : decide (n ≤ 6) = z) (w : World) : Calls Try.prog 22 #[.slice A n c] w fun e w' => e = .returned (.bool z) ∧ w = w' := by
  have := isChannel_c A n c w
  rwa [h] at this
set_option maxRecDepth 100000 in
set_option maxHeartbeats 1000000 in
theorem hasFrame_c (A : Option Addr) (c : Nat) (l : List FrD) (i : Int) (w : World) : Calls Try.prog 23 #[.slice A l.length c, .int .i64 i] w fun e w' => e = .returned (.bool (hasI l i)) ∧ w = w' := by
  obtain ⟨z, hz⟩ : ∃ z, hasI l i = z := ⟨_, rfl⟩
  have hR : Hid (z = decide (l.length ≤ 6 ∧ 0 ≤ i ∧ i < (l.length : Int))) := Lib.hid (by rw [← hz]; rfl)
  rw [hz]
  clear hz
  generalize l.length = n at *
  by_cases h6 : n ≤ 6
  · have C := Lib.hid (isChannel_k A n c true (by simpa using h6) w)
    by_cases h0 : 0 ≤ i
    · by_cases hn : i < (n : Int)
      · have HZ : Hid (z = true) := Lib.hid (by rw [hR.out]; exact decide_eq_true ⟨h6, h0, hn⟩)
        go_enter Try.func23, Try.ntmps23
        go_wp2_with fail
        refine C.out.mono ?_
        rintro e w1 ⟨rfl, rfl⟩
        go_wp2
        go_ret
        exact ⟨by rw [HZ.out]; rfl, rfl⟩
      · have HZ : Hid (z = false) := Lib.hid (by rw [hR.out]; exact decide_eq_false (fun h => hn h.2.2))
        have hn' : decide (i < (n : Int)) = false := by simpa using hn
        go_enter Try.func23, Try.ntmps23
        go_wp2_with fail
        refine C.out.mono ?_
        rintro e w1 ⟨rfl, rfl⟩
        go_wp2
        go_ret
        exact ⟨by rw [HZ.out]; rfl, rfl⟩
    · have HZ : Hid (z = false) := Lib.hid (by rw [hR.out]; exact decide_eq_false (fun h => h0 h.2.1))
      have h0' : decide (0 ≤ i) = false := by simpa using h0
      go_enter Try.func23, Try.ntmps23
      go_wp2_with fail
      refine C.out.mono ?_
      rintro e w1 ⟨rfl, rfl⟩
      go_wp2
      go_ret
      exact ⟨by rw [HZ.out]; rfl, rfl⟩
  · have C := Lib.hid (isChannel_k A n c false (by simpa using h6) w)
    have HZ : Hid (z = false) := Lib.hid (by rw [hR.out]; exact decide_eq_false (fun h => h6 h.1))
    go_enter Try.func23, Try.ntmps23
    go_wp2_with fail
    refine C.out.mono ?_
    rintro e w1 ⟨rfl, rfl⟩
    go_wp2
    go_ret
    exact ⟨by rw [HZ.out]; rfl, rfl⟩
theorem hasFrame_k (A : Option Addr) (c : Nat) (l : List FrD) (i : Int) (z : Bool) (h : hasI l i = z) (w : World) : Calls Try.prog 23 #[.slice A l.length c, .int .i64 i] w fun e w' => e = .returned (.bool z) ∧ w = w' := by
  have := hasFrame_c A c l i w
  rwa [h] at this
set_option maxRecDepth 100000 in
set_option maxHeartbeats 1000000 in
theorem devSend_c (A : Option Addr) (c : Nat) (l : List FrD) (f : FrD) (w : World) (hh : Holds w A (frC l)) :
    Calls Try.prog 13 #[.slice A l.length c, FV f] w (SendPost l f w) := by
  obtain ⟨kind, robot, seq, cell, flag⟩ := f
  show Calls _ _ #[_, .agg #[.int .i64 kind, .int .i64 robot, .int .u64 seq, .int .i64 cell, .int .i64 flag]] w _
  have HB1 := Lib.hid (below_newF w (.cells (FC ⟨kind, robot, seq, cell, flag⟩) 25))
  have HX1 : Hid (FrAt (w.alloc (.cells (FC ⟨kind, robot, seq, cell, flag⟩) 25)) w.heap.size ⟨kind, robot, seq, cell, flag⟩) := Lib.hid (FrAt.new w _)
  have HH1 := Lib.hid (hh.keep HB1.out)
  by_cases h6 : l.length ≤ 6
  · have C := Lib.hid (isChannel_k A l.length c true (by simpa using h6))
    have HS : Hid ((l.length < 6 ∧ sendL l ⟨kind, robot, seq, cell, flag⟩ = l ++ [⟨kind, robot, seq, cell, flag⟩]) ∨ (l.length = 6 ∧ sendL l ⟨kind, robot, seq, cell, flag⟩ = l)) := Lib.hid (sendL_cases _ h6)
    have hs1 : w.heap.size < (w.alloc (.cells (FC ⟨kind, robot, seq, cell, flag⟩) 25)).heap.size := by simp
    clear hh
    go_enter Try.func13, Try.ntmps13
    go_wp2_with fail
    generalize w.alloc (.cells #[.int .i64 kind, .int .i64 robot, .int .u64 seq, .int .i64 cell, .int .i64 flag] 25) = w1 at *
    refine (C.out w1).mono ?_
    rintro e w2 ⟨rfl, rfl⟩
    go_wp2_with (refine app_make _ rfl _ _ (by rfl) .i64 .i64 _ _ l.length 6 (by rfl) (by rfl) (by rfl) (by rfl) (by omega) (by omega) ?_)
    intro w3 cur HG hb3
    have hs3 := hb3.size
    have HX3 := Lib.hid (HX1.out.keep hb3)
    have HH3 := Lib.hid (HH1.out.keep hb3)
    have HB3 := Lib.hid (HB1.out.trans (hb3.mono (by omega)))
    obtain ⟨g, hg⟩ : ∃ g, g = w1.heap.size := ⟨_, rfl⟩
    rw [← hg] at HG hs3 ⊢
    have hgX : w.heap.size < g := by omega
    clear hg hb3 hs1 HX1 HH1 HB1 C
    go_wp2_with (refine app_copy _ w3 rfl _ _ (by rfl) g l.length 6 cur A c l.length l rfl (by rfl) (by rfl) HG.out (Nat.le_refl _) (by omega) (by omega) HH3.out (Below.refl _ _) ?_)
    intro w4 HO4 hb4
    have HX4 : Hid (FrAt w4 w.heap.size ⟨kind, robot, seq, cell, flag⟩) := Lib.hid ((hb4.block _ hgX).trans HX3.out)
    have HB4 := Lib.hid (HB3.out.trans (hb4.mono (by omega)))
    clear HX3 HH3 HB3 hb4 HG
    rcases HS.out with ⟨hlt, hse⟩ | ⟨hl6, hse⟩
    · have HSe := Lib.hid hse
      clear hse HS
      obtain ⟨x0, x1, x2, x3, x4⟩ := HX4.out.cell
      have hb4 := HB4.out.size
      have hg4 := own_ltF HO4.out
      go_wp2_with (at_builtin; refine app_frames _ rfl _ _ (by rfl) g _ l (by rfl) ((HO4.out.keep (below_newF _ _))) _ [⟨kind, robot, seq, cell, flag⟩] (by rfl) (arg_box (FrAt.new _ _) 1) (by simp; omega) (by simp; omega) ?_)
      intro v5 w5 hO5 hg5
      have HB5 := Lib.hid ((HB4.out.alloc (by omega) (.cells (FC ⟨kind, robot, seq, cell, flag⟩) 25)).grown hg5 (by simp; omega) (fun k hk => by simp [Value.ownBlock] at hk; omega))
      have HO5 := Lib.hid hO5
      clear hO5 hg5 HO4 HX4 HB4 x0 x1 x2 x3 x4
      go_wp2
      go_ret
      exact ⟨_, rfl, by rw [HSe.out]; exact ownsRow_base HO5.out (by omega), HB5.out⟩
    · have HSe := Lib.hid hse
      have hn : ¬ l.length < 6 := by omega
      clear hse HS HX4 hl6
      go_wp2
      go_ret
      exact ⟨_, rfl, by rw [HSe.out]; exact ownsRow_base HO4.out (by omega), HB4.out⟩
  · have C := Lib.hid (isChannel_k A l.length c false (by simpa using h6))
    have HS : Hid (sendL l ⟨kind, robot, seq, cell, flag⟩ = []) := Lib.hid (by unfold sendL; rw [if_neg h6])
    clear hh HX1 HH1
    go_enter Try.func13, Try.ntmps13
    go_wp2_with fail
    generalize w.alloc (.cells #[.int .i64 kind, .int .i64 robot, .int .u64 seq, .int .i64 cell, .int .i64 flag] 25) = w1 at *
    refine (C.out w1).mono ?_
    rintro e w2 ⟨rfl, rfl⟩
    go_wp2
    go_ret
    exact ⟨_, rfl, by rw [HS.out]; exact own_nilF _ _, HB1.out⟩
set_option maxRecDepth 100000 in
set_option maxHeartbeats 1000000 in
theorem devLose_no (A : Option Addr) (c : Nat) (l : List FrD) (i : Int) (w : World) (h : hasI l i = false) :
    Calls Try.prog 15 #[.slice A l.length c, .int .i64 i] w fun e w' => e = .returned (.tuple #[.slice none 0 0, .bool false]) ∧ w = w' := by
  have C := Lib.hid (hasFrame_k A c l i false h w)
  clear h
  go_enter Try.func15, Try.ntmps15
  go_wp2_with fail
  refine C.out.mono ?_
  rintro e w2 ⟨rfl, rfl⟩
  go_wp2
  go_ret2
  exact ⟨rfl, rfl⟩
set_option maxRecDepth 100000 in
set_option maxHeartbeats 1000000 in
theorem devLose_ok (A : Option Addr) (c : Nat) (l : List FrD) (n : Nat) (w : World) (hh : Holds w A (frC l)) (hc : l.length ≤ c) (h : hasI l (n : Int) = true) :
    Calls Try.prog 15 #[.slice A l.length c, .int .i64 (n : Int)] w fun e w' => ∃ u, e = .returned (.tuple #[u, .bool true]) ∧ OwnFr w' w.heap.size u (dropL l n) ∧ Below w.heap.size w w' := by
  have C := Lib.hid (hasFrame_k A c l n true h w)
  obtain ⟨hn, h6, _⟩ := hasI_at h
  have HH := Lib.hid hh
  obtain ⟨b, o, rfl, hb, _⟩ := hh.at_ (by rw [frC_length]; omega)
  obtain ⟨m, hm⟩ : ∃ m, m = n + 1 := ⟨_, rfl⟩
  have hw1 : IntKind.i64.wrap ((n : Int) + 1) = (m : Int) := by rw [hm]; exact wrap_inF (by omega)
  obtain ⟨k, hk⟩ : ∃ k, k + 1 = l.length := ⟨l.length - 1, by omega⟩
  have hw2 : IntKind.i64.wrap ((l.length : Int) - 1) = (k : Int) := by rw [← hk]; rw [show (((k + 1 : Nat) : Int) - 1) = (k : Int) by omega]; exact wrap_inF (by omega)
  have HM := Lib.hid hm
  have HK := Lib.hid hk
  have HN : Hid ((l.take n).length = n) := Lib.hid (by rw [List.length_take]; omega)
  have HD : Hid (∀ W, Holds W (some ⟨b, o, none⟩) (frC l) → ArgFr W (.slice (some ⟨b, o + m * 5, none⟩) (l.length - m) (c - m)) (l.drop m)) := Lib.hid (fun W hW => by
    have h1 := arg_part hW m (l.length - m) (c - m) (by omega)
    rwa [List.take_of_length_le (by rw [List.length_drop]; omega)] at h1)
  have hmc : (m : Int) ≤ (c : Int) := by omega
  have hml : (m : Int) ≤ (l.length : Int) := by omega
  have hlc : (l.length : Int) ≤ (c : Int) := by omega
  have hnk : n ≤ k := by omega
  have hk6 : k ≤ 5 := by omega
  have hm0 : (0 : Int) ≤ (m : Int) := by omega
  clear hm hk h
  go_enter Try.func15, Try.ntmps15
  go_wp2_with fail
  refine C.out.mono ?_
  rintro e w2 ⟨rfl, rfl⟩
  go_wp2_with (refine app_make _ rfl _ _ (by rfl) .i64 .i64 _ _ n k (by rfl) (by rfl) (by rfl) (by rfl) (by omega) (by omega) ?_)
  intro w3 cur HG hb3
  have hs3 := hb3.size
  have HH3 := Lib.hid (HH.out.keep hb3)
  have HB3 := Lib.hid hb3
  obtain ⟨g, hg⟩ : ∃ g, g = w.heap.size := ⟨_, rfl⟩
  rw [← hg] at HG hs3 ⊢
  have hgX : w.heap.size ≤ g := by omega
  have hbg : b < g := by omega
  clear hg hb3 HH C hh
  go_wp2_with (refine app_copy _ w3 rfl _ _ (by rfl) g n k cur (some ⟨b, o, none⟩) c l.length l rfl (by rfl) (by rfl) HG.out (by omega) (by omega) (by omega) HH3.out (Below.refl _ _) ?_)
  intro w4 HO4 hb4
  have HH4 := Lib.hid (fun (W : World) (hW : Below g w4 W) => (HH3.out.keepG hbg (hb4.trans hW)))
  have HB4 := Lib.hid (HB3.out.trans (hb4.mono hgX))
  have hs4 := own_ltF HO4.out
  clear HG HH3 hb4 HB3
  have HDr : Hid (dropL l n = l.take n ++ l.drop m) := Lib.hid (by rw [HM.out]; rfl)
  have HLen : Hid ((l.take n).length + (l.drop m).length = k) := Lib.hid (by rw [List.length_take, List.length_drop]; have := HM.out; have := HK.out; omega)
  have HOn : Hid (OwnFr w4 g (.slice (some ⟨g, 0, none⟩) n k) (l.take n)) := HO4
  by_cases hcm : c = m
  · have HE : Hid (l.drop m = []) := Lib.hid (List.drop_eq_nil_of_le (by omega))
    have hlm : l.length - m = 0 := by omega
    subst hcm
    have HO5 : Hid (OwnFr w4 g (.slice (some ⟨g, 0, none⟩) n k) (dropL l n)) := Lib.hid (by rw [HDr.out, HE.out, List.append_nil]; exact HO4.out)
    clear HOn HO4 HD HH4
    go_wp2
    go_ret2
    exact ⟨_, rfl, ownsRow_base HO5.out hgX, HB4.out⟩
  · have hcm' : ¬ m = c := fun h => hcm h.symm
    have HA := Lib.hid (HD.out w4 (HH4.out w4 (Below.refl _ _)))
    go_wp2_with (at_builtin; refine app_frames _ rfl _ _ (by rfl) g _ (l.take n) (by rfl) HO4.out _ (l.drop m) (by rfl) HA.out (by rw [HLen.out]; omega) (by omega) ?_)
    intro v5 w5 hO5 hg5
    have HB5 := Lib.hid (HB4.out.grown hg5 (by omega) (fun q hq => by simp [Value.ownBlock] at hq; omega))
    have HO5 : Hid (OwnFr w5 g v5 (dropL l n)) := Lib.hid (by rw [HDr.out]; exact hO5)
    clear hO5 hg5 HOn HO4 HB4 HD HH4
    go_wp2
    go_ret2
    exact ⟨_, rfl, ownsRow_base HO5.out hgX, HB5.out⟩
theorem devLose_c (A : Option Addr) (c : Nat) (l : List FrD) (i : Int) (w : World) (hh : Holds w A (frC l)) (hc : l.length ≤ c) :
    Calls Try.prog 15 #[.slice A l.length c, .int .i64 i] w (LosePost l i w) := by
  rcases hz : hasI l i with _ | _
  · refine (devLose_no A c l i w hz).mono ?_
    rintro e w' ⟨rfl, rfl⟩
    refine ⟨_, by rw [hz], ?_, Below.refl _ _⟩
    rw [(hasI_no hz).2.1]; exact own_nilF _ _
  · obtain ⟨n, rfl⟩ := Int.eq_ofNat_of_zero_le (hasI_iff.1 hz).2.1
    refine (devLose_ok A c l n w hh hc hz).mono ?_
    rintro e w' ⟨u, rfl, ho, hb⟩
    obtain ⟨_, _, _, h2, _⟩ := hasI_at hz
    exact ⟨u, by rw [hz], by rw [h2]; exact ho, hb⟩
set_option maxRecDepth 100000 in
set_option maxHeartbeats 1000000 in
theorem devDbl_c (A : Option Addr) (c : Nat) (l : List FrD) (i : Int) (w : World) (hh : Holds w A (frC l)) :
    Calls Try.prog 17 #[.slice A l.length c, .int .i64 i] w (DblPost l i w) := by
  rcases hz : hasI l i with _ | _
  · have C := Lib.hid (hasFrame_k A c l i false hz w)
    have HD := Lib.hid (hasI_no hz).2.2
    have HZ := Lib.hid hz
    clear hh hz
    go_enter Try.func17, Try.ntmps17
    go_wp2_with fail
    refine C.out.mono ?_
    rintro e w2 ⟨rfl, rfl⟩
    go_wp2
    go_ret2
    exact ⟨_, by rw [HZ.out]; rfl, by rw [HD.out]; exact own_nilF _ _, Below.refl _ _⟩
  · obtain ⟨n, rfl⟩ := Int.eq_ofNat_of_zero_le (hasI_iff.1 hz).2.1
    have C := Lib.hid (hasFrame_k A c l n true hz w)
    have HZ := Lib.hid hz
    obtain ⟨hn, h6, _, _, hd⟩ := hasI_at hz
    have HD := Lib.hid hd
    obtain ⟨b, o, rfl, hb, x0, x1, x2, x3, x4⟩ := holds_frm hh hn
    have CS := Lib.hid (devSend_c (some ⟨b, o, none⟩) c l l[n] w hh)
    have hnl : (n : Int) < (l.length : Int) := by omega
    clear hh hz hd
    generalize l[n] = f at *
    obtain ⟨kind, robot, seq, cell, flag⟩ := f
    dsimp only at x0 x1 x2 x3 x4
    go_enter Try.func17, Try.ntmps17
    go_wp2_with fail
    refine C.out.mono ?_
    rintro e w2 ⟨rfl, rfl⟩
    go_wp2_with fail
    refine CS.out.mono ?_
    rintro e w3 ⟨u, rfl, ho, hb3⟩
    have HO := Lib.hid ho
    have HB := Lib.hid hb3
    clear ho hb3
    go_wp2
    go_ret2
    exact ⟨_, by rw [HZ.out]; rfl, by rw [HD.out]; exact HO.out, HB.out⟩
set_option maxRecDepth 100000 in
set_option maxHeartbeats 1000000 in
theorem devDel_c (A : Option Addr) (c : Nat) (l : List FrD) (i : Int) (w : World) (hh : Holds w A (frC l)) (hc : l.length ≤ c) :
    Calls Try.prog 10 #[.slice A l.length c, .int .i64 i] w (DelPost l i w) := by
  have HB0 := Lib.hid (below_newF w (.cells (FC zeroF) 25))
  have HX0 : Hid (FrAt (w.alloc (.cells (FC zeroF) 25)) w.heap.size zeroF) := Lib.hid (FrAt.new w _)
  have HH0 := Lib.hid (hh.keep HB0.out)
  have HL := Lib.hid (devLose_c A c l i _ HH0.out hc)
  have hsz : w.heap.size < (w.alloc (.cells (FC zeroF) 25)).heap.size := by simp
  rcases hz : hasI l i with _ | _
  · have HD := Lib.hid (hasI_no hz)
    have HZ := Lib.hid hz
    clear hh hz HH0
    go_enter Try.func10, Try.ntmps10
    go_wp2_with fail
    refine HL.out.mono ?_
    rintro e w2 ⟨u, rfl, ho, hb⟩
    rw [HZ.out]
    have HX2 := Lib.hid (HX0.out.keep hb)
    have HB2 := Lib.hid (HB0.out.trans (hb.mono (by omega)))
    obtain ⟨x0, x1, x2, x3, x4⟩ := HX2.out.cell
    obtain ⟨y0, y1, y2, y3, y4⟩ := HX2.out.frozen
    clear ho hb HL HX0 HB0
    have HP := Lib.hid (HX2.out.put5 zeroF)
    go_wp2
    refine bodyPost_ret (results_frm3 rfl _ _ w.heap.size zeroF _ _ rfl HP.out rfl rfl) rfl ?_
    refine ⟨_, by rw [HD.out.1, HZ.out]; rfl, by rw [HD.out.2.1]; exact own_nilF _ _, ?_⟩
    exact put5_below (f := zeroF) HB2.out (Nat.le_refl _)
  · obtain ⟨n, rfl⟩ := Int.eq_ofNat_of_zero_le (hasI_iff.1 hz).2.1
    have HZ := Lib.hid hz
    obtain ⟨hn, h6, hd1, hd2, _⟩ := hasI_at hz
    have HD := Lib.hid (And.intro hd1 hd2)
    obtain ⟨b, o, rfl, hb0, hx⟩ := holds_frm hh hn
    have HFx : Hid (∀ W, Below w.heap.size w W → FrmIn W b (o + n * 5) l[n]) := Lib.hid (fun W hW => hx.keep hW)
    have hnl : (n : Int) < (l.length : Int) := by omega
    clear hh hz HH0 hd1 hd2 hx
    generalize l[n] = f at *
    obtain ⟨kind, robot, seq, cell, flag⟩ := f
    go_enter Try.func10, Try.ntmps10
    go_wp2_with fail
    refine HL.out.mono ?_
    rintro e w2 ⟨u, rfl, ho, hb⟩
    rw [HZ.out]
    have HX2 := Lib.hid (HX0.out.keep hb)
    have HB2 := Lib.hid (HB0.out.trans (hb.mono (by omega)))
    have HO2 := Lib.hid ho
    obtain ⟨x0, x1, x2, x3, x4⟩ := HFx.out w2 HB2.out
    dsimp only at x0 x1 x2 x3 x4
    obtain ⟨z0, z1, z2, z3, z4⟩ := HX2.out.cell
    obtain ⟨y0, y1, y2, y3, y4⟩ := HX2.out.frozen
    have hsw : w.heap.size < w2.heap.size := Nat.lt_of_lt_of_le hsz hb.size
    clear ho hb HL HX0 HB0 HFx
    have HP := Lib.hid (HX2.out.put5 ⟨kind, robot, seq, cell, flag⟩)
    have HO3 : Hid (OwnFr (put5W w2 w.heap.size ⟨kind, robot, seq, cell, flag⟩) (w.heap.size + 1) u (delL l n)) := Lib.hid (ownsRow_base (own_farF HO2.out (put5_grown _ _ _) hsz) (by omega))
    go_wp2
    refine bodyPost_ret (results_frm3 rfl _ _ w.heap.size ⟨kind, robot, seq, cell, flag⟩ _ _ rfl HP.out rfl rfl) rfl ?_
    refine ⟨_, by rw [HD.out.1, HZ.out]; rfl, ownsRow_base HO3.out (by omega), ?_⟩
    exact put5_below (f := ⟨kind, robot, seq, cell, flag⟩) HB2.out (Nat.le_refl _)
end Go.Proofs.Ytckknakpmaagnaa
