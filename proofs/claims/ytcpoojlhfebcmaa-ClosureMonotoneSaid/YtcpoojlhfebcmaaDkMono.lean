/- ClosureMonotone returns true. -/
import Derived.Test.YtcpoojlhfebcmaaDkAllow
namespace Go.Proofs.Ytcpoojlhfebcmaa
open Go Go.RowKit Fl

theorem atB_set {s : List Bool} {c v : Nat} (h : atB s v = true) : atB (s.set c true) v = true := by
  unfold atB at h ⊢
  rw [List.getD_eq_getElem?_getD] at h ⊢
  rw [List.getElem?_set]
  split
  · split
    · rfl
    · rename_i h1 h2
      rw [List.getElem?_eq_none (by omega)] at h
      cases h
  · exact h
theorem openS_set {s : List Bool} {x : SpurD} {c : Nat} (h : openS (s.set c true) x = true) : openS s x = true := by
  unfold openS at h ⊢
  rw [Bool.and_eq_true, Bool.not_eq_true', Bool.not_eq_true', Bool.or_eq_false_iff, List.any_eq_false] at h ⊢
  obtain ⟨⟨h1, h2⟩, h3⟩ := h
  have key : ∀ v, atB (s.set c true) v = false → atB s v = false := fun v hv => by
    rcases hq : atB s v with _ | _
    · rfl
    · rw [atB_set hq] at hv; cases hv
  exact ⟨⟨key _ h1, key _ h2⟩, fun j hj hq => h3 j hj (atB_set hq)⟩
theorem openSum_set {s : List Bool} {l : List SpurD} {c : Nat} (h0 : ∀ x ∈ l, 0 ≤ x.slots) : ∀ k, k ≤ l.length → openSum (s.set c true) l k ≤ openSum s l k
  | 0, _ => by simp [openSum]
  | k + 1, hk => by
    have ih := openSum_set (s := s) (c := c) h0 k (by omega)
    have hx := h0 _ (List.getElem_mem (show k < l.length by omega))
    rw [openSum_succ (by omega), openSum_succ (by omega)]
    rcases hd : l[k].depot with _ | _
    · simpa using ih
    · rcases ha : openS (s.set c true) l[k] with _ | _
      · rcases openS s l[k] with _ | _ <;> simp <;> omega
      · rw [openS_set ha]; simp; omega
theorem carB_down {N : NetD} {s : List Bool} {k r : Int} (hr : r ≤ k) (h : carB N s k = true) : carB N s r = true := by
  unfold carB at h ⊢
  rw [Bool.and_eq_true, decide_eq_true_iff] at h ⊢
  exact ⟨h.1, by omega⟩
set_option maxRecDepth 100000 in
set_option maxHeartbeats 8000000 in
theorem closureMonotone_c (hM : DevMutual) (C : Option Addr) (k : Nat) (zs : List Int) (fl bl : Int) (w : World) (hz : IntsAt w w.heap.size C zs) (hzl : zs.length ≤ maxLen) (hf1 : -9223372036854775808 ≤ fl) (hf2 : fl ≤ 9223372036854775807) (hb1 : -9223372036854775808 ≤ bl) (hb2 : bl ≤ 9223372036854775807) :
    Calls Try.prog 5 #[.slice C zs.length k, .int .i64 fl, .int .i64 bl] w fun e w' => e = .returned (.bool true) ∧ Below w.heap.size w w' := by
  have CK := Lib.hid (known10_c hM w)
  have HM := Lib.hid hM
  have HZ := Lib.hid hz
  have HL := Lib.hid hzl
  have HF := Lib.hid (show -9223372036854775808 ≤ fl ∧ fl ≤ 9223372036854775807 from ⟨hf1, hf2⟩)
  have HBl := Lib.hid (show -9223372036854775808 ≤ bl ∧ bl ≤ 9223372036854775807 from ⟨hb1, hb2⟩)
  clear hM hz hzl hf1 hf2 hb1 hb2
  go_enter Try.func5, Try.ntmps5
  go_wp2_with fail
  refine CK.out.mono ?_
  rintro e w1 ⟨rfl, hb1⟩
  have HT2 := Lib.hid (tape_new (c := k) HZ.out (Nat.le_refl _) hb1 HL.out)
  have HB2 : Hid (Below w.heap.size w (w1.alloc (.cells #[.slice C zs.length k, .int .i64 0] 35))) := Lib.hid (hb1.alloc hb1.size _)
  have HgB : Hid (w.heap.size ≤ w1.heap.size) := Lib.hid hb1.size
  have HS2 : Hid (w1.heap.size < (w1.alloc (.cells #[.slice C zs.length k, .int .i64 0] 35)).heap.size) := Lib.hid (by simp)
  clear hb1 CK HZ HL
  go_wp2_with fail
  refine (loose_c w.heap.size w1.heap.size 0 8 _ HT2.out (by omega) ⟨by omega, by omega⟩ HS2.out HgB.out).mono ?_
  rintro e w3 ⟨N, Ab, An, As, Ar, cb, cn, cs, cr, top, rfl, hN, hM⟩
  have HN := Lib.hid hN
  have H4 := Lib.hid (MadeN.begin hM ⟨HgB.out, HS2.out⟩ HB2.out)
  generalize w1.alloc (.cells #[.slice C zs.length k, .int .i64 0] 35) = w2 at *
  clear hN hM HT2 HB2 HgB HS2
  go_upto_region 5 with fail
  generalize w3.alloc (.cells (netCells Ab An As Ar cb cn cs cr N) 29) = w4 at *
  generalize w3.heap.size = X at *
  obtain ⟨x0, x1, x2, x3, x4, x5, x6, x7⟩ := boxAt_of H4.out.box
  go_wp2_with fail
  refine (cells_c Ab An As Ar cb cn cs cr N _ H4.out.nm.at_ HN.out.ok.few').mono ?_
  rintro e w5 ⟨rfl, hb5⟩
  have H5 := Lib.hid (H4.out.keep hb5)
  clear x0 x1 x2 x3 x4 x5 x6 x7 hb5 H4
  obtain ⟨nc, hnc⟩ : ∃ nc : Nat, cellsN N = (nc : Int) := ⟨(cellsN N).toNat, by
    have h3 := slotsK_bounds (l := N.spurs) (fun s hs => by have := (HN.out.ok.spurOk s hs).slots; omega) N.spurs.length (Nat.le_refl _)
    have h5 : cellsN N = N.blocks.length + slotsK N.spurs N.spurs.length := rfl
    omega⟩
  have hc48 : nc ≤ 48 := by have := cellsN_le HN.out.ok.few'; omega
  have HNC := Lib.hid hnc
  rw [hnc]
  clear hnc
  have hsz5 : w1.heap.size < w5.heap.size := by have := H5.out.lowG.2; have := H5.out.nm.still.size; omega
  go_wp2_with fail
  refine (shut_c w.heap.size w1.heap.size (0 + 300) nc w5 H5.out.nm.tape (by omega) (by omega) hsz5).mono ?_
  rintro e w6 ⟨sv, s, rfl, hsl, hos, ht, hst⟩
  obtain rfl := hsl
  obtain ⟨B, d, rfl, hs6⟩ := own_is hos
  have H6 := Lib.hid (H5.out.still ht hst)
  have HO6 := Lib.hid hos
  have HS6 := Lib.hid hs6
  clear hos hs6 ht hst H5 hsz5
  obtain ⟨r, hrr⟩ : ∃ r, r = cutN fl 8 := ⟨_, rfl⟩
  have hr := Lib.hid (cutN_lt (v := fl) (n := 8) (by omega))
  rw [← hrr] at hr
  have CF : Hid (∀ W, Calls Try.prog 18 #[.int .i64 fl, .int .i64 8] W fun e w' => e = .returned (.int .i64 r) ∧ W = w') := Lib.hid (fun W => by rw [hrr]; exact cutN_c fl 8 W (by omega) (by omega) HF.out.1 HF.out.2)
  have hnc1 : 1 ≤ s.length := by
    have h3 := slotsK_bounds (l := N.spurs) (fun s hs => by have := (HN.out.ok.spurOk s hs).slots; omega) N.spurs.length (Nat.le_refl _)
    have h5 : cellsN N = N.blocks.length + slotsK N.spurs N.spurs.length := rfl
    have h6 := HNC.out
    have h7 := HN.out.ok.some
    omega
  obtain ⟨b, hbb⟩ : ∃ b, b = cutN bl s.length := ⟨_, rfl⟩
  have hbs := cutN_lt (v := bl) hnc1
  rw [← hbb] at hbs
  have CB : Hid (∀ W, Calls Try.prog 18 #[.int .i64 bl, .int .i64 (s.length : Int)] W fun e w' => e = .returned (.int .i64 b) ∧ W = w') := Lib.hid (fun W => by rw [hbb]; exact cutN_c bl s.length W hnc1 (by omega) HBl.out.1 HBl.out.2)
  have HC48 := Lib.hid hc48
  clear hrr hbb hnc1
  obtain ⟨k, hk⟩ : ∃ k : Nat, k = r + 1 := ⟨_, rfl⟩
  have hk8 : k ≤ 8 := by have := hr.out; omega
  have hw1 : IntKind.i64.wrap (1 + (r : Int)) = (k : Int) := by
    rw [show (k : Int) = 1 + (r : Int) by omega]
    exact IntWalk.i64_in _ (by omega)
  have hw2 : IntKind.i64.wrap ((k : Int) - 1) = (r : Int) := by
    rw [show (k : Int) - 1 = (r : Int) by omega]
    exact IntWalk.i64_in _ (by omega)
  have HDown : Hid (carB N s k = true → carB N s r = true) := Lib.hid (carB_down (by omega))
  have HSet : Hid (openSum (s.set b true) N.spurs N.spurs.length ≤ openSum s N.spurs N.spurs.length) := Lib.hid (openSum_set (fun x hx => by have := (HN.out.ok.spurOk x hx).slots; omega) _ (Nat.le_refl _))
  have HK8 := Lib.hid hk8
  clear hk hk8 hc48
  have HCp := Lib.hid H6.out.nm.capR
  have HNt := Lib.hid (fun W (hW : Below w6.heap.size w6 W) => (H6.out.keep hW).nm.at_)
  have HBx := Lib.hid (fun W (hW : Below w6.heap.size w6 W) => boxAt_of (H6.out.keep hW).box)
  have HHs := Lib.hid (fun W (hW : Below w6.heap.size w6 W) => HS6.out.keep hW)
  have CR := Lib.hid (fun W (hW : Below w6.heap.size w6 W) (A : Option Addr) (dd : Nat) (f : Int) (hf0 : 0 ≤ f) (hf8 : f ≤ 8) (ss : List Bool) (hh : Holds W A (ss.map Bo)) (hl : ss.length = s.length) (hdd : ss.length ≤ dd) => carries_c HM.out Ab An As Ar A cb cn cs cr dd N ss f W (HNt.out W hW) HN.out.ok HCp.out hh (by rw [hl]; exact HNC.out.symm) hdd hf0 hf8)
  have CS := Lib.hid (fun W (hW : Below w6.heap.size w6 W) (A : Option Addr) (dd : Nat) (ss : List Bool) (hh : Holds W A (ss.map Bo)) (hl : ss.length = s.length) (hdd : ss.length ≤ dd) => devSlots_c Ab An As Ar A cb cn cs cr dd N ss W (HNt.out W hW) HN.out.ok HCp.out hh (by rw [hl]; exact HNC.out.symm) hdd)
  have hcap0 : s.length ≤ d := by
    obtain ⟨_, h2⟩ := HO6.out
    rcases h2 with ⟨_, h0⟩ | ⟨g, cap', cur, hv, _, _, hn, _⟩
    · omega
    · injection hv with _ _ hc
      omega
  have HCap0 := Lib.hid hcap0
  clear hcap0 HO6
  obtain ⟨x0, x1, x2, x3, x4, x5, x6, x7⟩ := HBx.out _ (Below.refl _ _)
  go_wp2_with fail
  refine (CF.out _).mono ?_
  rintro e w7 ⟨rfl, rfl⟩
  go_wp2_with fail
  refine (CR.out _ (Below.refl _ _) _ _ (k : Int) (by omega) (by have := HK8.out; omega) s HS6.out rfl HCap0.out).mono ?_
  rintro e w8 ⟨rfl, hb8⟩
  have HB8 := Lib.hid hb8
  clear x0 x1 x2 x3 x4 x5 x6 x7 hb8
  obtain ⟨x0, x1, x2, x3, x4, x5, x6, x7⟩ := HBx.out _ HB8.out
  go_wp2_with fail
  refine (CR.out _ HB8.out _ _ (r : Int) (by omega) (by have := hr.out; omega) s (HHs.out _ HB8.out) rfl HCap0.out).mono ?_
  rintro e w9 ⟨rfl, hb9⟩
  have HB9 := Lib.hid (HB8.out.trans (hb9.mono HB8.out.size))
  clear x0 x1 x2 x3 x4 x5 x6 x7 hb9 HB8
  generalize carB N s k = ka at *
  generalize carB N s r = ra at *
  clear CF CR hw1 hw2
  obtain ⟨bs, os, rfl, hbS, hcS⟩ := (HHs.out w9 HB9.out).at_ (by rw [List.length_map]; omega)
  have HNews : Hid (∀ j u, (s.map Bo)[j]? = some u → w9.cell? ((⟨bs, os, none⟩ : Addr).add j) = some u) := Lib.hid (fun j u hu => by
    obtain ⟨hj, hu⟩ := List.getElem?_eq_some_iff.1 hu
    rw [show ((⟨bs, os, none⟩ : Addr).add j) = ⟨bs, os + j, none⟩ by simp [Addr.add], hcS j hj, hu])
  obtain ⟨i0, hi, hi0, hi1, hi2⟩ := info_parts Try.infoBoolS
  have HLn : Hid ((s.map Bo).length = s.length * 1) := Lib.hid (by rw [List.length_map]; omega)
  have HOne : Hid (∀ u ∈ s.map Bo, u.oneCell' = true) := Lib.hid (fun u hu => by obtain ⟨x, _, rfl⟩ := List.mem_map.1 hu; rfl)
  have HNil := Lib.hid (World.ownsRow_nil w9 w9.heap.size 4 1)
  have h48 := HC48.out
  clear hcS hbS
  go_wp2_with (at_builtin; refine wpList_append_lies _ rfl _ _ 30 rfl w9.heap.size 4 i0 (.bool false) 1 1 Try.underlying30 hi hi0 hi1 hi2 rfl (by omega) (.slice none 0 0) 0 [] (by rfl) HNil.out ⟨bs, os, none⟩ s.length d (s.map Bo) (by rfl) HLn.out HNews.out HOne.out (by omega) (by unfold maxLen; omega) (by omega) (Nat.le_refl _) _ rfl ?_)
  intro gg cap w10 hown hgrow hat hlt
  have hb10 : Below w9.heap.size w9 w10 := (Below.refl w9.heap.size w9).grown hgrow (Nat.le_refl _) (fun k hk => by cases hk)
  have HM10 : Hid (w10.ownsRow w9.heap.size 4 1 (.slice (some ⟨gg, 0, none⟩) s.length cap) s.length (s.map Bo)) := Lib.hid hown
  have hgg : w9.heap.size ≤ gg := own_base HM10.out gg rfl
  have h910 : Below w6.heap.size w6 w10 := HB9.out.trans (hb10.mono HB9.out.size)
  obtain ⟨cu, c10, f10⟩ : ∃ cu, w10.cell? ⟨gg, b, none⟩ = some cu ∧ w10.frozen? ⟨gg, b, none⟩ = false := ⟨_, own_get HM10.out (i := b) (u := Bo s[b]) (by simp [hbs])⟩
  have HM11 : Hid ((w10.setCell ⟨gg, b, none⟩ (.bool true)).ownsRow w9.heap.size 4 1 (.slice (some ⟨gg, 0, none⟩) s.length cap) s.length ((s.set b true).map Bo)) := Lib.hid (by rw [List.map_set]; exact own_put HM10.out)
  have hcap : s.length ≤ cap := by
    obtain ⟨_, h2⟩ := HM10.out
    rcases h2 with ⟨_, h0⟩ | ⟨g, cap', cur, hv, _, _, hn, _⟩
    · omega
    · injection hv with _ _ hc
      omega
  have HB11 : Hid (Below w6.heap.size w6 (w10.setCell ⟨gg, b, none⟩ (.bool true))) := Lib.hid (below_put h910 (by have := HB9.out.size; omega))
  have HH11 : Hid (Holds (w10.setCell ⟨gg, b, none⟩ (.bool true)) (some ⟨gg, 0, none⟩) ((s.set b true).map Bo)) := Lib.hid (by
    obtain ⟨A2, c2, h1, h2⟩ := own_is HM11.out
    injection h1 with h1
    subst h1
    exact h2)
  have hm : (s.set b true).length = s.length := by simp
  have HSl1 := Lib.hid (CS.out _ HB11.out (some ⟨bs, os, none⟩) d s (HHs.out _ HB11.out) rfl HCap0.out)
  have h13 := fun W (hW : Below w6.heap.size w6 W) (hh : Holds W (some ⟨gg, 0, none⟩) ((s.set b true).map Bo)) => CS.out W hW (some ⟨gg, 0, none⟩) cap (s.set b true) hh hm (by rw [hm]; exact hcap)
  rw [hm] at h13
  have H13 := Lib.hid h13
  clear hown hgrow hat hlt hb10 HM10 hgg h910 HM11 hm h13 HNil HOne HLn HNews i0 hi hi0 hi1 hi2 CS h48 hcap
  generalize openSum (s.set b true) N.spurs N.spurs.length = yy at *
  generalize openSum s N.spurs N.spurs.length = xx at *
  obtain ⟨x0, x1, x2, x3, x4, x5, x6, x7⟩ := HBx.out _ HB11.out
  go_wp2_with fail
  refine (CB.out _).mono ?_
  rintro e w12 ⟨rfl, rfl⟩
  go_wp2_with fail
  refine HSl1.out.mono ?_
  rintro e w13 ⟨rfl, hb13⟩
  have HB13 := Lib.hid (HB11.out.trans (hb13.mono HB11.out.size))
  have HH13 := Lib.hid (HH11.out.keep hb13)
  clear x0 x1 x2 x3 x4 x5 x6 x7 hb13 HSl1 HH11 HB11 c10 f10
  obtain ⟨x0, x1, x2, x3, x4, x5, x6, x7⟩ := HBx.out _ HB13.out
  go_wp2_with fail
  refine (H13.out _ HB13.out HH13.out).mono ?_
  rintro e w14 ⟨rfl, hb14⟩
  have HB14 := Lib.hid (H6.out.below.trans ((HB13.out.trans (hb14.mono HB13.out.size)).mono H6.out.below.size))
  clear x0 x1 x2 x3 x4 x5 x6 x7 hb14 HB13 HH13 H13
  have hle := HSet.out
  rcases ka with _ | _
  · rcases ra with _ | _
    all_goals
      go_wp2
      go_ret
      exact ⟨rfl, HB14.out⟩
  · obtain rfl := HDown.out rfl
    go_wp2
    go_ret
    exact ⟨rfl, HB14.out⟩
end Go.Proofs.Ytcpoojlhfebcmaa
