/- PlaneRotates returns true, if plane's functions keep what PlBase asks. -/
import Derived.Test.YtifnmfljlgaeoaaPlMoved
import Derived.Test.YtifnmfljlgaeoaaPlFacts
import Derived.Test.YtifnmfljlgaeoaaPlTurns
import Derived.Test.YtifnmfljlgaeoaaGrSame
import Derived.Deep.RegionLaw
import Derived.Deep.CutRange
import Derived.Deep.DeepCutAuto
namespace Go.Proofs.Ytifnmfljlgaeoaa
open Go Go.RowKit Fl

theorem turnsK_map {l : List BlockD} {f : BlockD → BlockD} {g : Int → Int} (h : ∀ a b c, turnZ (f a) (f b) (f c) = g (turnZ a b c)) (k : Nat) (hk : k = 0 ∨ k + 2 ≤ l.length) : turnsK (l.map f) k = (turnsK l k).map g := by
  unfold turnsK
  rw [List.map_map]
  refine List.map_congr_left fun i hi => ?_
  have hi := List.mem_range.1 hi
  have e : ∀ j, j < l.length → atW (l.map f) j = f (atW l j) := fun j hj => by
    rw [atW_get (by simpa using hj), atW_get hj, List.getElem_map]
  rw [e i (by omega), e (i + 1) (by omega), e (i + 2) (by omega), h]
  rfl
theorem moveF_turn (q : Int) (a b c : BlockD) : turnZ (moveZ q false a) (moveZ q false b) (moveZ q false c) = turnZ a b c := turn_rot a b c _
theorem moveT_turn (q : Int) (a b c : BlockD) : turnZ (moveZ q true a) (moveZ q true b) (moveZ q true c) = swapT (turnZ a b c) := by
  show turnZ (mirZ (rotZ a q)) (mirZ (rotZ b q)) (mirZ (rotZ c q)) = _
  rw [turn_mir]
  congr 1
  exact turn_rot a b c _
theorem moveF_cross (q : Int) (a b : BlockD) : crossZ (moveZ q false a) (moveZ q false b) = 1 * crossZ a b := by
  rw [Int.one_mul]; exact cross_rot a b _
theorem moveT_cross (q : Int) (a b : BlockD) : crossZ (moveZ q true a) (moveZ q true b) = -1 * crossZ a b := by
  show crossZ (mirZ (rotZ a q)) (mirZ (rotZ b q)) = _
  rw [cross_mir]
  have : crossZ (rotZ a q) (rotZ b q) = crossZ a b := cross_rot a b _
  omega
theorem ok_move {b : BlockD} (h : okB b = true) (q : Int) (z : Bool) : okB (moveZ q z b) = true := by
  unfold moveZ
  split
  · exact ok_mir (rot_okZ h q)
  · exact rot_okZ h q
/-- What the rotated and the mirrored way give. -/
theorem moved_way {l : List BlockD} {q : Int} (h : ∀ b ∈ l, okB b = true) (hl : l.length ≤ 48) : (∀ z, wayE (l.map (moveZ q z)) = 0) ∧ turnsR (l.map (moveZ q false)) = turnsR l ∧ turnsR (l.map (moveZ q true)) = (turnsR l).map swapT ∧ areaR (l.map (moveZ q false)) = areaR l ∧ areaR (l.map (moveZ q true)) = -areaR l := by
  have hm : ∀ z, ∀ b ∈ l.map (moveZ q z), okB b = true := fun z b hb => by
    obtain ⟨x, hx, rfl⟩ := List.mem_map.1 hb
    exact ok_move (h x hx) q z
  have hk := fun z => okAll_way (hm z) (by simpa using hl)
  have h0 := okAll_way h hl
  have hkk : l.length - 2 = 0 ∨ l.length - 2 + 2 ≤ l.length := by omega
  refine ⟨fun z => (hk z).1, ?_, ?_, ?_, ?_⟩
  · rw [(hk false).2.1, h0.2.1, List.length_map, turnsK_map (g := id) (moveF_turn q) _ hkk, List.map_id]
  · rw [(hk true).2.1, h0.2.1, List.length_map, turnsK_map (moveT_turn q) _ hkk]
  · rw [(hk false).2.2, h0.2.2, poly_map (moveF_cross q), Int.one_mul]
  · rw [(hk true).2.2, h0.2.2, poly_map (moveT_cross q)]
    omega
set_option maxRecDepth 100000 in
set_option maxHeartbeats 8000000 in
theorem planeRotates_c (hA : DevAt) (hT : DevTurn) (hTs : DevTurns) (hR : DevArea) (hS : DevSquare) (hRo : DevRotate) (hMi : DevMirror) (C : Option Addr) (k : Nat) (zs : List Int) (n q : Int) (w : World) (hz : IntsAt w w.heap.size C zs) (hzl : zs.length ≤ maxLen) (hn : -9223372036854775808 ≤ n ∧ n ≤ 9223372036854775807) (hq : -9223372036854775808 ≤ q ∧ q ≤ 9223372036854775807) :
    Calls Try.prog 5 #[.slice C zs.length k, .int .i64 n, .int .i64 q] w fun e w' => e = .returned (.bool true) ∧ Below w.heap.size w w' := by
  have CK := Lib.hid (known8_c hA hT hR w)
  have HZ := Lib.hid hz
  have HL := Lib.hid hzl
  have HT := Lib.hid hTs
  have HA := Lib.hid hR
  have HS := Lib.hid hS
  have CM := Lib.hid (fun (A : Option Addr) (c n : Nat) (l : List BlockD) (z : Bool) (W : World) hw hh hn => moved_c hRo hMi A c n l q hq z W hw hh hn)
  clear hA hT hTs hR hS hRo hMi hz hzl hq
  go_enter Try.func5, Try.ntmps5
  go_wp2_with fail
  refine CK.out.mono ?_
  rintro e w1 ⟨rfl, hb1⟩
  have HB1 := Lib.hid hb1
  have CB := Lib.hid (fun m (hm : m ≤ 10) => blocks_c C k m zs w1 ((HZ.out.keep (Nat.le_refl _) hb1).more hb1.size) HL.out hm)
  clear hb1 CK HZ HL
  go_wp2_with fail
  refine (cut_c n 6 w1 (by decide) (by decide) hn.1 hn.2).mono ?_
  rintro e w1' ⟨m, hm, rfl, rfl⟩
  obtain ⟨p, hp⟩ : ∃ p : Nat, p = 2 + m := ⟨_, rfl⟩
  have hw0 : IntKind.i64.wrap (2 + (m : Int)) = (p : Int) := by rw [hp]; rw [show ((2 + m : Nat) : Int) = 2 + (m : Int) by omega]; exact wrap_in (by omega)
  have hp8 : 2 ≤ p ∧ p ≤ 8 := by omega
  have CBm := Lib.hid (CB.out p (by omega))
  clear CB hp hm
  go_wp2_with fail
  refine CBm.out.mono ?_
  rintro e w2 ⟨A, c, l, rfl, hml, hhl, hb2⟩
  have HB2 := Lib.hid (HB1.out.trans (hb2.mono HB1.out.size))
  have HM := Lib.hid hml
  have H2 := Lib.hid hhl
  clear hb2 HB1 CBm hml hhl hw0
  have hok : ∀ b ∈ l, okB b = true := fun b hb => (HM.out.2 b hb).1
  have hl48 : l.length ≤ 48 := by have := HM.out.1; omega
  have HW0 := Lib.hid (okAll_way hok hl48)
  have HMv := Lib.hid (moved_way (q := q) hok hl48)
  have HAs := Lib.hid (area_small hok hl48)
  have HLen := Lib.hid HM.out.1
  clear hok hl48
  have C1 := Lib.hid (CM.out A c p l false w2 HM.out H2.out (by omega))
  go_wp2_with fail
  refine C1.out.mono ?_
  rintro e w3 ⟨X, cx, rfl, hX, hb3⟩
  have HB3 := Lib.hid (HB2.out.trans (hb3.mono HB2.out.size))
  have HX3 := Lib.hid hX
  have H3 := Lib.hid (H2.out.keep hb3)
  clear hX hb3 C1 HB2 H2
  have C2 := Lib.hid (CM.out A c p l true w3 HM.out H3.out (by omega))
  go_wp2_with fail
  refine C2.out.mono ?_
  rintro e w4 ⟨Y, cy, rfl, hY, hb4⟩
  have HB4 := Lib.hid (HB3.out.trans (hb4.mono HB3.out.size))
  have HX4 := Lib.hid (HX3.out.keep hb4)
  have HY4 := Lib.hid hY
  have H4 := Lib.hid (H3.out.keep hb4)
  clear hY hb4 C2 HB3 H3 HX3 CM
  have CT := Lib.hid (fun (A' : Option Addr) (c' : Nat) (l' : List BlockD) (T : List Int) (W : World) (hh : Holds W A' (blockCells l')) (hlen : l'.length = p) (h0 : wayE l' = 0) (hT : turnsR l' = T) => (by
    have h := HT.out A' c' l' W hh (by omega)
    rw [hlen, h0, hT] at h
    exact h : Calls Try.prog 13 #[.slice A' p c'] W fun e w' => ∃ X cx, e = .returned (.tuple #[.slice X T.length cx, .int .i64 0]) ∧ Holds w' X (T.map Iv) ∧ Below W.heap.size W w'))
  have CR := Lib.hid (fun (A' : Option Addr) (c' : Nat) (l' : List BlockD) (z : Int) (W : World) (hh : Holds W A' (blockCells l')) (hlen : l'.length = p) (h0 : wayE l' = 0) (hT : areaR l' = z) => (by
    have h := HA.out A' c' l' W hh (by omega)
    rw [hlen, h0, hT] at h
    exact h : Calls Try.prog 15 #[.slice A' p c'] W fun e w' => e = .returned (.tuple #[.int .i64 z, .int .i64 0]) ∧ Below W.heap.size W w'))
  have HLX : Hid ((l.map (moveZ q false)).length = p) := Lib.hid (by rw [List.length_map]; exact HLen.out)
  have HLY : Hid ((l.map (moveZ q true)).length = p) := Lib.hid (by rw [List.length_map]; exact HLen.out)
  have HTL := Lib.hid (show (turnsR l).length ≤ 1000 by rw [HW0.out.2.1, turnsK_len]; have := HLen.out; omega)
  obtain ⟨T, hTd⟩ : ∃ T, turnsR l = T := ⟨_, rfl⟩
  obtain ⟨s, hsd⟩ : ∃ s, areaR l = s := ⟨_, rfl⟩
  have HTd := Lib.hid hTd
  have HSd := Lib.hid hsd
  rw [hTd] at HTL
  rw [hsd] at HAs
  have E1 : Hid (turnsR (l.map (moveZ q false)) = T) := Lib.hid (by rw [HMv.out.2.1]; exact HTd.out)
  have E2 : Hid (turnsR (l.map (moveZ q true)) = T.map swapT) := Lib.hid (by rw [HMv.out.2.2.1, HTd.out])
  have E3 : Hid (areaR (l.map (moveZ q false)) = s) := Lib.hid (by rw [HMv.out.2.2.2.1]; exact HSd.out)
  have E4 : Hid (areaR (l.map (moveZ q true)) = -s) := Lib.hid (by rw [HMv.out.2.2.2.2, HSd.out])
  have HTr : Hid (∀ j (h : j < T.length), 0 ≤ T[j] ∧ T[j] ≤ 4) := Lib.hid (fun j h => by
    have e : ∀ x ∈ T, 0 ≤ x ∧ x ≤ 4 := fun x hx => by
      rw [← HTd.out, HW0.out.2.1] at hx
      unfold turnsK at hx
      obtain ⟨i, _, rfl⟩ := List.mem_map.1 hx
      exact turnOf_range _ _
    exact e _ (List.getElem_mem h))
  clear hTd hsd HT HA
  have CC := Lib.hid (CT.out A c l T w4 H4.out HLen.out HW0.out.1 HTd.out)
  go_wp2_with fail
  refine CC.out.mono ?_
  rintro e w5 ⟨Q5, q5, rfl, hr, hb⟩
  have HB5 := Lib.hid (HB4.out.trans (hb.mono HB4.out.size))
  have H5 := Lib.hid (H4.out.keep hb)
  have HX5 := Lib.hid (HX4.out.keep hb)
  have HY5 := Lib.hid (HY4.out.keep hb)
  have HV5_5 := Lib.hid hr
  clear hb CC HB4 H4 HX4 HY4 hr
  have CC := Lib.hid (CT.out X cx (l.map (moveZ q false)) T w5 HX5.out HLX.out (HMv.out.1 false) E1.out)
  go_wp2_with fail
  refine CC.out.mono ?_
  rintro e w6 ⟨Q6, q6, rfl, hr, hb⟩
  have HB6 := Lib.hid (HB5.out.trans (hb.mono HB5.out.size))
  have H6 := Lib.hid (H5.out.keep hb)
  have HX6 := Lib.hid (HX5.out.keep hb)
  have HY6 := Lib.hid (HY5.out.keep hb)
  have HV5_6 := Lib.hid (HV5_5.out.keep hb)
  have HV6_6 := Lib.hid hr
  clear hb CC HB5 H5 HX5 HY5 hr HV5_5
  have CC := Lib.hid (CT.out Y cy (l.map (moveZ q true)) (T.map swapT) w6 HY6.out HLY.out (HMv.out.1 true) E2.out)
  go_wp2_with fail
  refine CC.out.mono ?_
  rintro e w7 ⟨Q7, q7, rfl, hr, hb⟩
  have HB7 := Lib.hid (HB6.out.trans (hb.mono HB6.out.size))
  have H7 := Lib.hid (H6.out.keep hb)
  have HX7 := Lib.hid (HX6.out.keep hb)
  have HY7 := Lib.hid (HY6.out.keep hb)
  have HV5_7 := Lib.hid (HV5_6.out.keep hb)
  have HV6_7 := Lib.hid (HV6_6.out.keep hb)
  have HV7_7 := Lib.hid hr
  clear hb CC HB6 H6 HX6 HY6 hr HV5_6 HV6_6
  have CC := Lib.hid (CR.out A c l s w7 H7.out HLen.out HW0.out.1 HSd.out)
  go_wp2_with fail
  refine CC.out.mono ?_
  rintro e w8 ⟨rfl, hb⟩
  have HB8 := Lib.hid (HB7.out.trans (hb.mono HB7.out.size))
  have H8 := Lib.hid (H7.out.keep hb)
  have HX8 := Lib.hid (HX7.out.keep hb)
  have HY8 := Lib.hid (HY7.out.keep hb)
  have HV5_8 := Lib.hid (HV5_7.out.keep hb)
  have HV6_8 := Lib.hid (HV6_7.out.keep hb)
  have HV7_8 := Lib.hid (HV7_7.out.keep hb)
  clear hb CC HB7 H7 HX7 HY7 HV5_7 HV6_7 HV7_7
  have CC := Lib.hid (CR.out X cx (l.map (moveZ q false)) s w8 HX8.out HLX.out (HMv.out.1 false) E3.out)
  go_wp2_with fail
  refine CC.out.mono ?_
  rintro e w9 ⟨rfl, hb⟩
  have HB9 := Lib.hid (HB8.out.trans (hb.mono HB8.out.size))
  have H9 := Lib.hid (H8.out.keep hb)
  have HX9 := Lib.hid (HX8.out.keep hb)
  have HY9 := Lib.hid (HY8.out.keep hb)
  have HV5_9 := Lib.hid (HV5_8.out.keep hb)
  have HV6_9 := Lib.hid (HV6_8.out.keep hb)
  have HV7_9 := Lib.hid (HV7_8.out.keep hb)
  clear hb CC HB8 H8 HX8 HY8 HV5_8 HV6_8 HV7_8
  have CC := Lib.hid (CR.out Y cy (l.map (moveZ q true)) (-s) w9 HY9.out HLY.out (HMv.out.1 true) E4.out)
  go_wp2_with fail
  refine CC.out.mono ?_
  rintro e w10 ⟨rfl, hb⟩
  have HB10 := Lib.hid (HB9.out.trans (hb.mono HB9.out.size))
  have H10 := Lib.hid (H9.out.keep hb)
  have HX10 := Lib.hid (HX9.out.keep hb)
  have HY10 := Lib.hid (HY9.out.keep hb)
  have HV5_10 := Lib.hid (HV5_9.out.keep hb)
  have HV6_10 := Lib.hid (HV6_9.out.keep hb)
  have HV7_10 := Lib.hid (HV7_9.out.keep hb)
  clear hb CC HB9 H9 HX9 HY9 HV5_9 HV6_9 HV7_9
  have hw1 : IntKind.i64.wrap (-s) = -s := wrap_in (by have := HAs.out; omega)
  have hq1 : (s != s) = false := by simp
  have hq2 : (-s != -s) = false := by simp
  have hq3 : (((T.length : Nat) : Int) != ((T.length : Nat) : Int)) = false := by simp
  have C5 := Lib.hid (sameIntsE_c Q5 Q6 q5 q6 T w10 HV5_10.out HV6_10.out (by have := HTL.out; omega))
  go_wp2_with fail
  refine C5.out.mono ?_
  rintro e w11 ⟨rfl, n5, rfl⟩
  have hbd := below_drewN (Below.refl w10.heap.size w10) n5
  have HB11 := Lib.hid (HB10.out.trans (hbd.mono HB10.out.size))
  have H11 := Lib.hid (H10.out.keep hbd)
  have HX11 := Lib.hid (HX10.out.keep hbd)
  have HQ5 := Lib.hid (HV5_10.out.keep hbd)
  have HQ7 := Lib.hid (HV7_10.out.keep hbd)
  clear hbd C5 HB10 H10 HX10 HY10 HV5_10 HV6_10 HV7_10 hq1 hq2 hq3 hw1
  generalize w10.drewN n5 = w11 at *
  go_wp2
  have HW11 : Hid (Below w11.heap.size w11 w11) := Lib.hid (Below.refl _ _)
  go_loopw [24, 25] (fun iv _ wr => ∃ j : Nat, iv = .int .i64 j ∧ j ≤ T.length ∧ Hid (Below w11.heap.size w11 wr)) (fun iv _ _ => T.length - (intOf iv).toNat)
  case atStart => exact ⟨0, rfl, Nat.zero_le _, HW11⟩
  case round =>
    clear HW11
    obtain ⟨j, rfl, hj, HW⟩ := hrel
    have hT1000 := HTL.out
    by_cases hlt : j < T.length
    · obtain ⟨b5, o5, rfl, e5⟩ := (HQ5.out.keep HW.out).iv hlt
      obtain ⟨b7, o7, rfl, e7⟩ := (HQ7.out.keep HW.out).iv (k := j) (by rw [List.length_map]; exact hlt)
      rw [List.getElem_map] at e7
      have hrg := HTr.out j hlt
      generalize T[j] = tz at *
      have hsw : ∃ y : Int, ((IntKind.i64.wrap (3 - tz) = y ∧ ((tz == 1) = true ∨ (tz == 1) = false ∧ (tz == 2) = true)) ∨ (tz = y ∧ (tz == 1) = false ∧ (tz == 2) = false)) ∧ (swapT tz != y) = false := by
        unfold swapT
        by_cases h : tz = 1 ∨ tz = 2
        · refine ⟨3 - tz, .inl ⟨wrap_in (by omega), ?_⟩, by rw [if_pos h]; simp⟩
          rcases h with h | h <;> rw [h] <;> decide
        · refine ⟨tz, .inr ⟨rfl, ?_, ?_⟩, by rw [if_neg h]; simp⟩ <;> rw [beq_eq_false_iff_ne] <;> omega
      obtain ⟨y, hy, hyq⟩ := hsw
      clear hrg
      rcases hy with ⟨hw, hz4 | ⟨hz4, hz5⟩⟩ | ⟨rfl, hz4, hz5⟩
      all_goals
        go_wp2
        go_roundw
        case rel => exact ⟨j + 1, by go_num, by omega, HW⟩
        case measure => simp [intOf]; omega
    · obtain rfl : j = T.length := by omega
      have hl0 : 0 < l.length := by have := HLen.out; omega
      have hl1 : 1 < l.length := by have := HLen.out; omega
      obtain ⟨b, o, rfl, hbl, h0⟩ := H11.out.block hl0
      obtain ⟨b', o', hE, _, h1⟩ := H11.out.block hl1
      injection hE with hE
      injection hE with hE1 hE2
      subst hE1 hE2
      obtain ⟨bx, ox, rfl, hbx, g0⟩ := HX11.out.block (k := 0) (by rw [List.length_map]; exact hl0)
      obtain ⟨b', o', hE, _, g1⟩ := HX11.out.block (k := 1) (by rw [List.length_map]; exact hl1)
      injection hE with hE
      injection hE with hE1 hE2
      subst hE1 hE2
      have k0 := (HM.out.2 _ (List.getElem_mem hl0)).1
      have k1 := (HM.out.2 _ (List.getElem_mem hl1)).1
      have sq : squareR l[0] l[1] = squareZ l[0] l[1] ∧ twoBE l[0] l[1] = 0 := by unfold squareR twoBE twoB; rw [k0, k1]; exact ⟨rfl, rfl⟩
      have sq2 : squareR (moveZ q false l[0]) (moveZ q false l[1]) = squareZ l[0] l[1] ∧ twoBE (moveZ q false l[0]) (moveZ q false l[1]) = 0 := by
        unfold squareR twoBE twoB
        rw [ok_move k0, ok_move k1]
        exact ⟨square_rot _ _ _, rfl⟩
      rw [List.getElem_map] at g0 g1
      have S1 := fun W => HS.out l[0] l[1] W
      have S2 := fun W => HS.out (moveZ q false l[0]) (moveZ q false l[1]) W
      rw [sq.1, sq.2] at S1
      rw [sq2.1, sq2.2] at S2
      have S1 := Lib.hid S1
      have S2 := Lib.hid S2
      generalize squareZ l[0] l[1] = sz at *
      simp only [Nat.zero_mul, Nat.one_mul, Nat.add_zero] at h0 h1 g0 g1
      have G0 := Lib.hid (g0.keep hbx HW.out)
      have G1 := Lib.hid (g1.keep hbx HW.out)
      have hbx2 : bx < wr.heap.size := Nat.lt_of_lt_of_le hbx HW.out.size
      have hh0 := h0.keep hbl HW.out
      have hh1 := h1.keep hbl HW.out
      have HWW := Lib.hid (HB11.out.trans (HW.out.mono HB11.out.size))
      clear sq sq2 k0 k1 h0 h1 g0 g1 HS
      generalize moveZ q false l[0] = y0 at *
      generalize moveZ q false l[1] = y1 at *
      generalize l[0] = x0 at *
      generalize l[1] = x1 at *
      obtain ⟨a0, a1, a2⟩ := hh0
      obtain ⟨c0, c1, c2⟩ := hh1
      have hp2 : (1 : Int) < p := by omega
      have hp3 : 1 < p := by omega
      have hp0 : 0 < p := by omega
      go_wp2_with fail
      go_cut [26, 27] (fun u v wx => u = .int .i64 sz ∧ v = .int .i64 0 ∧ Hid (Below wr.heap.size wr wx))
      case first =>
        go_region_law (go_simp; go_at_call 19; refine (S1.out _).mono ?_; rintro e w9 ⟨rfl, hb9⟩)
        all_goals
          go_wp2_with fail
          go_meet
          case rel => exact ⟨rfl, rfl, Lib.hid (((Below.refl wr.heap.size wr).drew).trans hb9)⟩
      case rest =>
        obtain ⟨rfl, rfl, HV⟩ := hcut
        have hk0 := G0.out.keep hbx2 HV.out
        have hk1 := G1.out.keep hbx2 HV.out
        have HVW := Lib.hid (HWW.out.trans (HV.out.mono HWW.out.size))
        clear a0 a1 a2 c0 c1 c2 S1
        obtain ⟨a0, a1, a2⟩ := hk0
        obtain ⟨c0, c1, c2⟩ := hk1
        go_wp2_with fail
        go_cut [28, 29] (fun u v wx => u = .int .i64 sz ∧ v = .int .i64 0 ∧ Hid (Below w.heap.size w wx))
        case first =>
          go_region_law (go_simp; go_at_call 19; refine (S2.out _).mono ?_; rintro e w9 ⟨rfl, hb9⟩)
          all_goals
            go_wp2_with fail
            go_meet
            case rel => exact ⟨rfl, rfl, Lib.hid (HVW.out.trans ((((Below.refl _ _).drew).trans hb9).mono HVW.out.size))⟩
        case rest =>
          obtain ⟨rfl, rfl, HF⟩ := hcut
          clear a0 a1 a2 c0 c1 c2 S2
          go_wp2
          go_ret
          exact ⟨rfl, HF.out⟩
end Go.Proofs.Ytifnmfljlgaeoaa
