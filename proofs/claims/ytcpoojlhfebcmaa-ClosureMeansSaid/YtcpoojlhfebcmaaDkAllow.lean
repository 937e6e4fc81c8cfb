/- ClosureAllowed returns true. -/
import Derived.Test.YtcpoojlhfebcmaaMjE
import Derived.Test.YtcpoojlhfebcmaaMjF
import Derived.Test.YtcpoojlhfebcmaaNtCells
import Derived.Test.YtcpoojlhfebcmaaMjA
import Derived.BigQuiet
namespace Go.Proofs.Ytcpoojlhfebcmaa
open Go Go.RowKit Fl

/-- What the walk keeps of the made network in its box, the tape beside it. -/
structure MadeN (w w2 : World) (gt T X top : Nat) (N : NetD) (Ab An As Ar : Option Addr) (cb cn cs cr : Nat) (wr : World) : Prop where
  nm : NM w2 w.heap.size gt T w2.heap.size (w2.heap.size + 3) top N Ab An As Ar cb cn cs cr wr
  box : wr.heap[X]? = some (.cells (netCells Ab An As Ar cb cn cs cr N) 29 (0, 0))
  lowX : w2.heap.size ≤ X
  below : Below w.heap.size w wr
  lowG : w.heap.size ≤ gt ∧ gt < w2.heap.size
section
variable {w w2 wr w' : World} {gt T T' X top : Nat} {N : NetD} {Ab An As Ar : Option Addr} {cb cn cs cr : Nat}
theorem MadeN.still (h : MadeN w w2 gt T X top N Ab An As Ar cb cn cs cr wr) (ht : TapeOk w' w.heap.size gt T') (hs : Still gt wr.heap.size wr w') : MadeN w w2 gt T' X top N Ab An As Ar cb cn cs cr w' := by
  obtain ⟨g1, g2⟩ := h.lowG
  have hz := h.nm.still.size
  have hX := block_lt h.box
  exact ⟨h.nm.low ht ⟨hs.os, hs.tape, hs.output, hs.size, fun k hk hg => hs.block k (by omega) hg⟩ hs.size (fun k h1 h2 => hs.block k h2 (by omega)), (hs.block X hX (by have := h.lowX; omega)).trans h.box, h.lowX, h.below.trans (hs.below h.below.size g1), h.lowG⟩
theorem MadeN.keep (h : MadeN w w2 gt T X top N Ab An As Ar cb cn cs cr wr) (hb : Below wr.heap.size wr w') : MadeN w w2 gt T X top N Ab An As Ar cb cn cs cr w' :=
  h.still (h.nm.tape.keep hb) (Still.of_below hb)
theorem MadeN.begin (hn : NM w2 w.heap.size gt T w2.heap.size (w2.heap.size + 3) top N Ab An As Ar cb cn cs cr wr) (hg : w.heap.size ≤ gt ∧ gt < w2.heap.size) (hb : Below w.heap.size w w2) : MadeN w w2 gt T wr.heap.size top N Ab An As Ar cb cn cs cr (wr.alloc (.cells (netCells Ab An As Ar cb cn cs cr N) 29)) := by
  have hB : Below wr.heap.size wr (wr.alloc (.cells (netCells Ab An As Ar cb cn cs cr N) 29)) := (Below.refl _ _).alloc (Nat.le_refl _) _
  have hs := Still.of_below (g := gt) hB
  have hz := hn.still.size
  have h2 : Below w.heap.size w wr := hb.trans (hn.still.below hb.size hg.1)
  exact ⟨hn.low (hn.tape.keep hB) ⟨hs.os, hs.tape, hs.output, hs.size, fun k hk hg => hs.block k (by omega) hg⟩ hs.size (fun k h1 h2 => hs.block k h2 (by omega)), heap_alloc_new _ _, hz, h2.trans (hB.mono h2.size), hg⟩
end
set_option maxRecDepth 100000 in
set_option maxHeartbeats 8000000 in
theorem closureAllowed_c (hM : DevMutual) (C : Option Addr) (k : Nat) (zs : List Int) (fl bl : Int) (w : World) (hz : IntsAt w w.heap.size C zs) (hzl : zs.length ≤ maxLen) (hf1 : -9223372036854775808 ≤ fl) (hf2 : fl ≤ 9223372036854775807) (hb1 : -9223372036854775808 ≤ bl) (hb2 : bl ≤ 9223372036854775807) :
    Calls Try.prog 6 #[.slice C zs.length k, .int .i64 fl, .int .i64 bl] w fun e w' => e = .returned (.bool true) ∧ Below w.heap.size w w' := by
  have CK := Lib.hid (known10_c hM w)
  have HM := Lib.hid hM
  have HZ := Lib.hid hz
  have HL := Lib.hid hzl
  have HF := Lib.hid (show -9223372036854775808 ≤ fl ∧ fl ≤ 9223372036854775807 from ⟨hf1, hf2⟩)
  have HBl := Lib.hid (show -9223372036854775808 ≤ bl ∧ bl ≤ 9223372036854775807 from ⟨hb1, hb2⟩)
  clear hM hz hzl hf1 hf2 hb1 hb2
  go_enter Try.func6, Try.ntmps6
  go_wp2_with fail
  refine CK.out.mono ?_
  rintro e w1 ⟨rfl, hb1⟩
  have HT2 := Lib.hid (tape_new (c := k) HZ.out (Nat.le_refl _) hb1 HL.out)
  have HB2 : Hid (Below w.heap.size w (w1.alloc (.cells #[.slice C zs.length k, .int .i64 0] 35))) := Lib.hid (hb1.alloc hb1.size _)
  have HgB : Hid (w.heap.size ≤ w1.heap.size) := Lib.hid hb1.size
  have HS2 : Hid (w1.heap.size < (w1.alloc (.cells #[.slice C zs.length k, .int .i64 0] 35)).heap.size) := Lib.hid (by simp)
  clear hb1 CK HZ HL
  go_wp2_with fail
  refine (loose_c w.heap.size w1.heap.size 0 8 _ HT2.out (by omega) ⟨by omega, by omega⟩ HS2.out HgB.out).mono ?_
  rintro e w3 ⟨N, Ab, An, As, Ar, cb, cn, cs, cr, top, rfl, hN, hM⟩
  have HN := Lib.hid hN
  have H4 := Lib.hid (MadeN.begin hM ⟨HgB.out, HS2.out⟩ HB2.out)
  generalize w1.alloc (.cells #[.slice C zs.length k, .int .i64 0] 35) = w2 at *
  clear hN hM HT2 HB2 HgB HS2
  go_upto_region 5 with fail
  generalize w3.alloc (.cells (netCells Ab An As Ar cb cn cs cr N) 29) = w4 at *
  generalize w3.heap.size = X at *
  obtain ⟨x0, x1, x2, x3, x4, x5, x6, x7⟩ := boxAt_of H4.out.box
  go_wp2_with fail
  refine (cells_c Ab An As Ar cb cn cs cr N _ H4.out.nm.at_ HN.out.ok.few').mono ?_
  rintro e w5 ⟨rfl, hb5⟩
  have H5 := Lib.hid (H4.out.keep hb5)
  clear x0 x1 x2 x3 x4 x5 x6 x7 hb5 H4
  obtain ⟨nc, hnc⟩ : ∃ nc : Nat, cellsN N = (nc : Int) := ⟨(cellsN N).toNat, by
    have h3 := slotsK_bounds (l := N.spurs) (fun s hs => by have := (HN.out.ok.spurOk s hs).slots; omega) N.spurs.length (Nat.le_refl _)
    have h5 : cellsN N = N.blocks.length + slotsK N.spurs N.spurs.length := rfl
    omega⟩
  have hc48 : nc ≤ 48 := by have := cellsN_le HN.out.ok.few'; omega
  have HNC := Lib.hid hnc
  rw [hnc]
  clear hnc
  have hsz5 : w1.heap.size < w5.heap.size := by have := H5.out.lowG.2; have := H5.out.nm.still.size; omega
  go_wp2_with fail
  refine (shut_c w.heap.size w1.heap.size (0 + 300) nc w5 H5.out.nm.tape (by omega) (by omega) hsz5).mono ?_
  rintro e w6 ⟨sv, s, rfl, hsl, hos, ht, hst⟩
  obtain rfl := hsl
  obtain ⟨B, d, rfl, hs6⟩ := own_is hos
  have H6 := Lib.hid (H5.out.still ht hst)
  have HO6 := Lib.hid hos
  have HS6 := Lib.hid hs6
  clear hos hs6 ht hst H5 hsz5
  have HBL : Hid (1 ≤ N.blocks.length ∧ N.blocks.length ≤ 8) := Lib.hid ⟨HN.out.ok.some, HN.out.most_⟩
  go_upto_region 6 with fail
  have CF : Hid (∀ W, Calls Try.prog 18 #[.int .i64 fl, .int .i64 9] W fun e w' => e = .returned (.int .i64 (cutN fl 9)) ∧ w' = W) := Lib.hid (fun W => (cutN_c fl 9 W (by omega) (by omega) HF.out.1 HF.out.2).mono fun e w' h => ⟨h.1, h.2.symm⟩)
  have CB : Hid (∀ W, Calls Try.prog 18 #[.int .i64 bl, .int .i64 (N.blocks.length : Int)] W fun e w' => e = .returned (.int .i64 (cutN bl N.blocks.length)) ∧ w' = W) := Lib.hid (fun W => (cutN_c bl N.blocks.length W (by have := HBL.out; omega) (by have := HBL.out; omega) HBl.out.1 HBl.out.2).mono fun e w' h => ⟨h.1, h.2.symm⟩)
  have hr := Lib.hid (cutN_lt (v := fl) (n := 9) (by omega))
  have hb := Lib.hid (cutN_lt (v := bl) HBL.out.1)
  have HC48 := Lib.hid hc48
  obtain ⟨x0, _, _, _, _, _, _, _⟩ := boxAt_of H6.out.box
  clear hc48
  generalize cutN fl 9 = r at *
  generalize cutN bl N.blocks.length = b at *
  have HKd : Hid (∀ n, Below w6.heap.size w6 (w6.drewN n)) := Lib.hid (fun n => below_drewN (Below.refl _ _) n)
  go_quiet (first | (go_at_call_of 18 fl; with_reducible exact Calls.quiet_of_same (CF.out _)) | (go_at_call_of 18 bl; with_reducible exact Calls.quiet_of_same (CB.out _)))
  rename_i nq
  have hb7 := HKd.out nq
  have H7 := Lib.hid (H6.out.keep hb7)
  have HS7 := Lib.hid (HS6.out.keep hb7)
  generalize w6.drewN nq = w7 at *
  clear x0 hb7 H6 HS6 HKd CF CB HO6
  have HCp := Lib.hid H7.out.nm.capR
  have HNt := Lib.hid (fun W (hW : Below w7.heap.size w7 W) => (H7.out.keep hW).nm.at_)
  have HBx := Lib.hid (fun W (hW : Below w7.heap.size w7 W) => boxAt_of (H7.out.keep hW).box)
  have HHs := Lib.hid (fun W (hW : Below w7.heap.size w7 W) => HS7.out.keep hW)
  have CA := Lib.hid (fun W (hW : Below w7.heap.size w7 W) (A : Option Addr) (dd : Nat) (ss : List Bool) (hh : Holds W A (ss.map Bo)) (hl : ss.length = s.length) => allowed_c HM.out Ab An As Ar A cb cn cs cr dd b N ss r W (HNt.out W hW) HN.out.ok HCp.out hh (by rw [hl]; exact HNC.out.symm) hb.out (by omega) (by have := hr.out; omega))
  have CR := Lib.hid (fun W (hW : Below w7.heap.size w7 W) (A : Option Addr) (dd : Nat) (ss : List Bool) (hh : Holds W A (ss.map Bo)) (hl : ss.length = s.length) (hdd : ss.length ≤ dd) => carries_c HM.out Ab An As Ar A cb cn cs cr dd N ss r W (HNt.out W hW) HN.out.ok HCp.out hh (by rw [hl]; exact HNC.out.symm) hdd (by omega) (by have := hr.out; omega))
  have hbs : b < s.length := by
    have h3 := slotsK_bounds (l := N.spurs) (fun s hs => by have := (HN.out.ok.spurOk s hs).slots; omega) N.spurs.length (Nat.le_refl _)
    have h5 : cellsN N = N.blocks.length + slotsK N.spurs N.spurs.length := rfl
    have h6 := HNC.out
    have h7 := hb.out
    omega
  obtain ⟨x0, x1, x2, x3, x4, x5, x6, x7⟩ := HBx.out _ (Below.refl _ _)
  go_wp2_with fail
  refine (CA.out _ (Below.refl _ _) _ _ s (HHs.out _ (Below.refl _ _)) rfl).mono ?_
  rintro e w8 ⟨rfl, hb8⟩
  have HB8 := Lib.hid hb8
  clear x0 x1 x2 x3 x4 x5 x6 x7 hb8
  have HMay : Hid (mayB N s b r = (carB N (s.set b true) r && !s[b])) := Lib.hid (by unfold mayB; rw [List.getD_eq_getElem?_getD, List.getElem?_eq_getElem hbs]; rfl)
  have HMay2 : Hid (mayB N (s.set b true) b r = false) := Lib.hid (by unfold mayB; rw [List.getD_eq_getElem?_getD, List.getElem?_eq_getElem (by simpa using hbs)]; simp)
  rw [HMay.out]
  obtain ⟨bs, os, rfl, hbS, hcS⟩ := (HHs.out w8 HB8.out).at_ (by rw [List.length_map]; omega)
  have hld : w8.cell? ⟨bs, os + b, none⟩ = some (Bo s[b]) := by
    have e := hcS b (by rw [List.length_map]; exact hbs)
    rwa [List.getElem_map] at e
  have HNews : Hid (∀ j u, (s.map Bo)[j]? = some u → w8.cell? ((⟨bs, os, none⟩ : Addr).add j) = some u) := Lib.hid (fun j u hu => by
    obtain ⟨hj, hu⟩ := List.getElem?_eq_some_iff.1 hu
    rw [show ((⟨bs, os, none⟩ : Addr).add j) = ⟨bs, os + j, none⟩ by simp [Addr.add], hcS j hj, hu])
  obtain ⟨i0, hi, hi0, hi1, hi2⟩ := info_parts Try.infoBoolS
  have HLn : Hid ((s.map Bo).length = s.length * 1) := Lib.hid (by rw [List.length_map]; omega)
  have HOne : Hid (∀ u ∈ s.map Bo, u.oneCell' = true) := Lib.hid (fun u hu => by obtain ⟨x, _, rfl⟩ := List.mem_map.1 hu; rfl)
  have HNil := Lib.hid (World.ownsRow_nil w8 w8.heap.size 4 1)
  have h48 := HC48.out
  generalize hca : carB N (s.set b true) r = ca at *
  have HCa := Lib.hid hca
  generalize hsb : s[b] = sb at *
  clear hcS HMay hsb hbS hca
  go_wp2_with (at_builtin; refine wpList_append_lies _ rfl _ _ 30 rfl w8.heap.size 4 i0 (.bool false) 1 1 Try.underlying30 hi hi0 hi1 hi2 rfl (by omega) (.slice none 0 0) 0 [] (by rfl) HNil.out ⟨bs, os, none⟩ s.length d (s.map Bo) (by rfl) HLn.out HNews.out HOne.out (by omega) (by unfold maxLen; omega) (by omega) (Nat.le_refl _) _ rfl ?_)
  intro gg cap w9 hown hgrow hat hlt
  have hb9 : Below w8.heap.size w8 w9 := (Below.refl w8.heap.size w8).grown hgrow (Nat.le_refl _) (fun k hk => by cases hk)
  have HM9 : Hid (w9.ownsRow w8.heap.size 4 1 (.slice (some ⟨gg, 0, none⟩) s.length cap) s.length (s.map Bo)) := Lib.hid hown
  have hgg : w8.heap.size ≤ gg := own_base HM9.out gg rfl
  have h89 : Below w7.heap.size w7 w9 := HB8.out.trans (hb9.mono HB8.out.size)
  obtain ⟨cu, c9, f9⟩ : ∃ cu, w9.cell? ⟨gg, b, none⟩ = some cu ∧ w9.frozen? ⟨gg, b, none⟩ = false := ⟨_, own_get HM9.out (i := b) (u := Bo s[b]) (by simp [hbs])⟩
  have HM10 : Hid ((w9.setCell ⟨gg, b, none⟩ (.bool true)).ownsRow w8.heap.size 4 1 (.slice (some ⟨gg, 0, none⟩) s.length cap) s.length ((s.set b true).map Bo)) := Lib.hid (by rw [List.map_set]; exact own_put HM9.out)
  have hcap : s.length ≤ cap := by
    obtain ⟨_, h2⟩ := HM9.out
    rcases h2 with ⟨_, h0⟩ | ⟨g, cap', cur, hv, _, _, hn, _⟩
    · omega
    · injection hv with _ _ hc
      omega
  have HB10 : Hid (Below w7.heap.size w7 (w9.setCell ⟨gg, b, none⟩ (.bool true))) := Lib.hid (below_put h89 (by have := HB8.out.size; omega))
  have HH10 : Hid (Holds (w9.setCell ⟨gg, b, none⟩ (.bool true)) (some ⟨gg, 0, none⟩) ((s.set b true).map Bo)) := Lib.hid (by
    obtain ⟨A2, c2, h1, h2⟩ := own_is HM10.out
    injection h1 with h1
    subst h1
    exact h2)
  have hm : (s.set b true).length = s.length := by simp
  have h11 := CR.out _ HB10.out (some ⟨gg, 0, none⟩) cap (s.set b true) HH10.out hm (by rw [hm]; exact hcap)
  rw [hm, HCa.out] at h11
  have H11 := Lib.hid h11
  have H12 := Lib.hid (fun W (hW : Below w7.heap.size w7 W) (hh : Holds W (some ⟨gg, 0, none⟩) ((s.set b true).map Bo)) => CA.out W hW (some ⟨gg, 0, none⟩) cap (s.set b true) hh hm)
  rw [hm, HMay2.out] at H12
  clear hown hgrow hat hlt hb9 HM9 hgg h89 HM10 hm h11 HNil HOne HLn HNews hld i0 hi hi0 hi1 hi2 CA CR HMay2 HCa h48
  obtain ⟨x0, x1, x2, x3, x4, x5, x6, x7⟩ := HBx.out _ HB10.out
  go_wp2_with fail
  refine H11.out.mono ?_
  rintro e w11 ⟨rfl, hb11⟩
  have HB11 := Lib.hid (HB10.out.trans (hb11.mono HB10.out.size))
  have HH11 := Lib.hid (HH10.out.keep hb11)
  clear x0 x1 x2 x3 x4 x5 x6 x7 hb11 H11 HH10 HB10
  obtain ⟨x0, x1, x2, x3, x4, x5, x6, x7⟩ := HBx.out _ HB11.out
  go_wp2_with fail
  refine (H12.out _ HB11.out HH11.out).mono ?_
  rintro e w12 ⟨rfl, hb12⟩
  have HB12 := Lib.hid (H7.out.below.trans ((HB11.out.trans (hb12.mono HB11.out.size)).mono H7.out.below.size))
  clear x0 x1 x2 x3 x4 x5 x6 x7 hb12 HB11 HH11 H12
  rcases sb with _ | _ <;> rcases ca with _ | _
  all_goals
    go_wp2
    go_ret
    exact ⟨rfl, HB12.out⟩
end Go.Proofs.Ytcpoojlhfebcmaa
