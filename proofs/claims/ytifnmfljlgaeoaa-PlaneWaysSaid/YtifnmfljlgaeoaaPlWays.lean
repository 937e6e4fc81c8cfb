/- PlaneWays returns true, if plane's functions keep what PlBase asks. -/
import Derived.Test.YtifnmfljlgaeoaaPlKnown
import Derived.Test.YtifnmfljlgaeoaaGrSame
namespace Go.Proofs.Ytifnmfljlgaeoaa
open Go Go.RowKit Fl

theorem turnsR_len (l : List BlockD) : (turnsR l).length ≤ 1000000000000000000 := by
  unfold turnsR
  split
  · rename_i h
    rcases wayE_cases l with ⟨h1, h2⟩ | ⟨h1, h2, h3⟩ | ⟨h1, h2, h3⟩
    · omega
    · omega
    · rw [turnsK_len]; omega
  · simp
set_option maxRecDepth 100000 in
set_option maxHeartbeats 8000000 in
theorem planeWays_c (hA : DevAt) (hT : DevTurn) (hTs : DevTurns) (hR : DevArea) (A C : Option Addr) (c k : Nat) (raw : List BlockD) (n : Int) (zs : List Int) (w : World) (hr : Holds w A (blockCells raw)) (hrl : raw.length ≤ 1000000000000000000) (hz : IntsAt w w.heap.size C zs) (hzl : zs.length ≤ maxLen) (hn : -9223372036854775808 ≤ n ∧ n ≤ 9223372036854775807) :
    Calls Try.prog 4 #[.slice A raw.length c, .slice C zs.length k, .int .i64 n] w fun e w' => e = .returned (.bool true) ∧ Below w.heap.size w w' := by
  have CK := Lib.hid (known8_c hA hT hR w)
  have HZ := Lib.hid hz
  have HL := Lib.hid hzl
  have HR := Lib.hid hr
  have HT := Lib.hid hTs
  have HA := Lib.hid hR
  clear hA hT hR hz hzl hr hTs
  go_enter Try.func4, Try.ntmps4
  go_wp2_with fail
  refine CK.out.mono ?_
  rintro e w1 ⟨rfl, hb1⟩
  have HB1 := Lib.hid hb1
  have CB := Lib.hid (fun m (hm : m ≤ 10) => blocks_c C k m zs w1 ((HZ.out.keep (Nat.le_refl _) hb1).more hb1.size) HL.out hm)
  have HR1 := Lib.hid (HR.out.keep hb1)
  clear hb1 CK HZ HL HR
  go_wp2_with fail
  refine (cut_c n 9 w1 (by decide) (by decide) hn.1 hn.2).mono ?_
  rintro e w1' ⟨m, hm, rfl, rfl⟩
  have CBm := Lib.hid (CB.out m (by omega))
  clear CB
  go_wp2_with fail
  refine CBm.out.mono ?_
  rintro e w2 ⟨A2, c2, l2, rfl, hml, hhl, hb2⟩
  have HR2 := Lib.hid (HR1.out.keep hb2)
  have HB2 := Lib.hid (HB1.out.trans (hb2.mono HB1.out.size))
  have hl2 : l2.length ≤ 1000000000000000000 := by rw [hml.1]; omega
  have H2 := Lib.hid hhl
  have hlm : m = l2.length := hml.1.symm
  subst hlm
  clear hb2 HB1 HR1 CBm hml hhl
  have hba := below_newP w2 (.cells #[.slice A raw.length c, .slice A2 l2.length c2] 26)
  have hnew : (w2.alloc (.cells #[.slice A raw.length c, .slice A2 l2.length c2] 26)).heap[w2.heap.size]? = some (.cells #[.slice A raw.length c, .slice A2 l2.length c2] 26) := heap_alloc_new w2 _
  have HC : Hid (∀ i : Nat, i < 2 → ∃ (A' : Option Addr) (c' : Nat) (l' : List BlockD), l'.length ≤ 1000000000000000000 ∧ Hid (Holds w2 A' (blockCells l')) ∧ ∀ W, Below (w2.heap.size + 1) (w2.alloc (.cells #[.slice A raw.length c, .slice A2 l2.length c2] 26)) W → W.cell? ⟨w2.heap.size, i, none⟩ = some (.slice A' l'.length c')) := Lib.hid (fun i hi => by
    match i, hi with
    | 0, _ => exact ⟨A, c, raw, hrl, HR2, fun W hW => by rw [hW.cell (p := ⟨w2.heap.size, 0, none⟩) (Nat.lt_succ_self _), cell_of_row _ _ 0 _ _ _ hnew]; rfl⟩
    | 1, _ => exact ⟨A2, c2, l2, hl2, H2, fun W hW => by rw [hW.cell (p := ⟨w2.heap.size, 1, none⟩) (Nat.lt_succ_self _), cell_of_row _ _ 1 _ _ _ hnew]; rfl⟩)
  have HB3 : Hid (Below (w2.heap.size + 1) (w2.alloc (.cells #[.slice A raw.length c, .slice A2 l2.length c2] 26)) (w2.alloc (.cells #[.slice A raw.length c, .slice A2 l2.length c2] 26))) := Lib.hid (Below.refl _ _)
  have HBA := Lib.hid hba
  have HBs : Hid (w2.heap.size + 1 ≤ (w2.alloc (.cells #[.slice A raw.length c, .slice A2 l2.length c2] 26)).heap.size) := Lib.hid (by simp)
  clear hba hnew HR2 H2 hl2
  go_wp2
  generalize w2.alloc (.cells #[.slice A raw.length c, .slice A2 l2.length c2] 26) = w3 at *
  go_loopw [8, 9, 10, 11, 12, 13, 14, 15, 16] (fun iv _ _ _ _ _ _ _ _ wr => ∃ i : Nat, iv = .int .i64 i ∧ i ≤ 2 ∧ Hid (Below (w2.heap.size + 1) w3 wr)) (fun iv _ _ _ _ _ _ _ _ _ => 2 - (intOf iv).toNat)
  case atStart => exact ⟨0, rfl, by omega, HB3⟩
  case round =>
    clear HB3
    obtain ⟨i, rfl, hi, HW⟩ := hrel
    by_cases hlt : i < 2
    · obtain ⟨A', c', l', hl', HH, hcell⟩ := HC.out i hlt
      have HCe := Lib.hid hcell
      have hi2 : (i : Int) < 2 := by omega
      have e0 := hcell wr HW.out
      have hkeep : ∀ W, Below (w2.heap.size + 1) w3 W → Holds W A' (blockCells l') := fun W hW => by
        have h1 := HH.out.keep HBA.out
        rcases h1 with h1 | ⟨b, o, h2, _, h3⟩
        · exact .inl h1
        · rcases HH.out with g1 | ⟨b', o', g2, g3, _⟩
          · exact .inl g1
          · rw [g2] at h2
            injection h2 with h2
            injection h2 with e1 e2
            subst e1 e2
            exact .inr ⟨b', o', g2, by have := hW.size; have := HBA.out.size; omega, fun j hj => (hW.cell (p := ⟨b', o' + j, none⟩) (show b' < _ by omega)).trans (h3 j hj)⟩
      have HK := Lib.hid hkeep
      have HTl := Lib.hid (turnsR_len l')
      clear hcell hkeep
      have C1 := Lib.hid (HT.out A' c' l' wr (HK.out wr HW.out) hl')
      go_wp2_with fail
      refine C1.out.mono ?_
      rintro e v1 ⟨X1, x1, rfl, hX1, hb1⟩
      have hsz := HW.out.size
      have HV1 := Lib.hid (HW.out.trans (hb1.mono (show w2.heap.size + 1 ≤ wr.heap.size by have := HBs.out; omega)))
      have HX1 := Lib.hid hX1
      clear hX1 hb1 C1 e0
      have e0 := HCe.out v1 HV1.out
      have C2 := Lib.hid (refTurns_c A' c' l' v1 (HK.out v1 HV1.out) hl')
      go_wp2_with fail
      refine C2.out.mono ?_
      rintro e v2 ⟨u2, rfl, own2, hb2⟩
      obtain ⟨X2, x2, rfl, hX2⟩ := own_is own2
      have hs1 := HV1.out.size
      have HV2 := Lib.hid (HV1.out.trans (hb2.mono (show w2.heap.size + 1 ≤ v1.heap.size by have := HBs.out; omega)))
      have HX12 := Lib.hid (HX1.out.keep hb2)
      have HX2 := Lib.hid hX2
      clear own2 hX2 hb2 C2 e0 HX1
      have e0 := HCe.out v2 HV2.out
      have C3 := Lib.hid (HA.out A' c' l' v2 (HK.out v2 HV2.out) hl')
      go_wp2_with fail
      refine C3.out.mono ?_
      rintro e v3 ⟨rfl, hb3⟩
      have hs2 := HV2.out.size
      have HV3 := Lib.hid (HV2.out.trans (hb3.mono (show w2.heap.size + 1 ≤ v2.heap.size by have := HBs.out; omega)))
      have HX13 := Lib.hid (HX12.out.keep hb3)
      have HX23 := Lib.hid (HX2.out.keep hb3)
      clear hb3 C3 e0 HX12 HX2
      have e0 := HCe.out v3 HV3.out
      have C4 := Lib.hid (refArea_c A' c' l' v3 (HK.out v3 HV3.out) hl')
      go_wp2_with fail
      refine C4.out.mono ?_
      rintro e v4 ⟨rfl, hb4⟩
      have hs3 := HV3.out.size
      have HV4 := Lib.hid (HV3.out.trans (hb4.mono (show w2.heap.size + 1 ≤ v3.heap.size by have := HBs.out; omega)))
      have HX14 := Lib.hid (HX13.out.keep hb4)
      have HX24 := Lib.hid (HX23.out.keep hb4)
      clear hb4 C4 e0 HX13 HX23
      have C5 := Lib.hid (sameIntsE_c X1 X2 x1 x2 (turnsR l') v4 HX14.out HX24.out HTl.out)
      have hq1 : (wayE l' != wayE l') = false := by simp
      have hq2 : (areaR l' != areaR l') = false := by simp
      go_wp2_with fail
      refine C5.out.mono ?_
      rintro e v5 ⟨rfl, n5, rfl⟩
      have HV5 := Lib.hid (HV4.out.trans ((below_drewN (Below.refl v4.heap.size v4) n5).mono (show w2.heap.size + 1 ≤ v4.heap.size by have := HV4.out.size; have := HBs.out; omega)))
      clear hsz hs1 hs2 hs3 HV1 HV2 HV3 HV4 C5 HX14 HX24 HTl HK HCe
      go_wp2
      go_roundw
      case rel => exact ⟨i + 1, by go_num, by omega, HV5⟩
      case measure => simp [intOf]; omega
    · obtain rfl : i = 2 := by omega
      have hfin : Below w.heap.size w wr := (HB2.out.trans (HBA.out.mono HB2.out.size)).trans (HW.out.mono (by have := HB2.out.size; omega))
      have HFi := Lib.hid hfin
      clear hfin
      go_wp2
      go_ret
      exact ⟨rfl, HFi.out⟩
end Go.Proofs.Ytifnmfljlgaeoaa
