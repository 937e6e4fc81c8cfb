/- LayoutFormats returns true: Valid and Format return what the reference returns, for any declarations and those of a made network. -/
import Derived.Test.YtgjnhefmheefbaaDoorMjG
import Derived.Test.YtgjnhefmheefbaaDoorMjF
import Derived.Test.YtgjnhefmheefbaaDoorDsJoin
import Derived.Test.YtgjnhefmheefbaaDoorLyKnown
import Derived.Test.YtgjnhefmheefbaaDoorNmNet
import Derived.Test.YtgjnhefmheefbaaDoorNmLs
namespace Go.Proofs.YtgjnhefmheefbaaDoor
open Go.RowKit Fl
attribute [local go_sem] bget

theorem descD_sz {N : NetD} (hN : NetOk N) : ∀ d ∈ descD N, DeclSz d := fun d hd => by
  have h := descD_fmt hN d hd
  have h2 := h.short
  exact ⟨h.names, by have := h.nums; omega, h.ints, fun f hf => by have := h2 f hf; unfold maxLen; omega⟩
theorem lfdesc_length (N : NetD) : (descD N).length = (rawDecls N).length := lineFrom_length _ _
/-- A list of declarations that a round handles. -/
structure LfList (w : World) (A : Option Addr) (ds : List DeclD) : Prop where
  at_ : DeclsAt w A ds
  few : ds.length ≤ 2199023255552
  sz : ∀ d ∈ ds, DeclSz d
theorem LfList.keep {w w' : World} {A : Option Addr} {ds : List DeclD} (h : LfList w A ds) (hb : Below w.heap.size w w') : LfList w' A ds := ⟨h.at_.keep hb, h.few, h.sz⟩
theorem lineOf_few {ds : List DeclD} (h : ∀ d ∈ ds, DeclSz d) (l : LineI) (hl : l ∈ ds.map lineOf) : l.2.length ≤ 1000000000000000000 := by
  obtain ⟨d, hd, rfl⟩ := List.mem_map.1 hl
  have := (h d hd).names
  have := (h d hd).nums
  simp [lineOf]
  omega
/-- What Format returns. -/
def fmtL (ds : List DeclD) : List LineI := if ds.all validB then ds.map lineOf else []
def fmtE (ds : List DeclD) : Int := if ds.all validB then 0 else 20
theorem fmt2 {w w' : World} {ds : List DeclD} {e : Ending} (h : FmtPost2 w ds e w') : ∃ A c, e = .returned (.tuple #[.slice A (fmtL ds).length c, .int .i64 (fmtE ds)]) ∧ RawAt w' A (fmtL ds) ∧ Below w.heap.size w w' := by
  obtain ⟨hb, h⟩ := h
  rcases h with ⟨hv, v, rfl, ho⟩ | ⟨hv, rfl⟩
  · obtain ⟨A, c, rfl⟩ : ∃ A c, v = .slice A (ds.map lineOf).length c := by obtain ⟨_, _, hown, _⟩ := ho; exact own_slice hown
    have h1 : fmtL ds = ds.map lineOf := by unfold fmtL; rw [if_pos hv]
    have h2 : fmtE ds = 0 := by unfold fmtE; rw [if_pos hv]
    exact ⟨A, c, by rw [h1, h2], by rw [h1]; exact ho.raw, hb⟩
  · have h1 : fmtL ds = [] := by unfold fmtL; rw [hv]; rfl
    have h2 : fmtE ds = 20 := by unfold fmtE; rw [hv]; rfl
    exact ⟨none, 0, by rw [h1, h2]; rfl, by rw [h1]; exact .inl rfl, hb⟩
theorem fmtL_len {ds : List DeclD} (h : ds.length ≤ 2199023255552) : (fmtL ds).length ≤ 1000000000000000000 := by
  unfold fmtL
  split
  · rw [List.length_map]; omega
  · simp
theorem fmtL_few {ds : List DeclD} (h : ∀ d ∈ ds, DeclSz d) (l : LineI) (hl : l ∈ fmtL ds) : l.2.length ≤ 1000000000000000000 := by
  unfold fmtL at hl
  split at hl
  · exact lineOf_few h l hl
  · cases hl
set_option maxRecDepth 100000 in
set_option maxHeartbeats 4000000 in
theorem layoutFormats_c (A0 A1 : Option Addr) (c0 c1 : Nat) (ds0 : List DeclD) (zs : List Int) (w : World) (hd : DeclsAt w A0 ds0) (hl0 : ds0.length ≤ 2199023255552) (hok : ∀ d ∈ ds0, DeclSz d) (hz : IntsAt w w.heap.size A1 zs) (hl : zs.length ≤ maxLen) (hg : Shapes w) (hp : Pows w) :
    Calls Tryd.prog 3 #[.slice A0 ds0.length c0, .slice A1 zs.length c1] w fun e w' => e = .returned (.bool true) ∧ Below w.heap.size w w' := by
  have C := Lib.hid (known2_c w hg)
  have HG := Lib.hid hg
  have HP := Lib.hid hp
  have HD := Lib.hid (LfList.mk hd hl0 hok)
  have HZ := Lib.hid hz
  have HL := Lib.hid hl
  clear hg hp hz hl hd hl0 hok
  go_enter Tryd.func3, Tryd.ntmps3
  go_wp2_with fail
  refine C.out.mono ?_
  rintro e w1 ⟨rfl, hb1⟩
  have CN := Lib.hid (net_c w.heap.size w1.heap.size 0 6 _ (tape_new (c := c1) HZ.out (Nat.le_refl _) hb1 HL.out) (by omega) ⟨by omega, by omega⟩ (by simp) hb1.size)
  have hba : Below w.heap.size w (w1.alloc (.cells #[.slice A1 zs.length c1, .int .i64 0] 35)) := hb1.alloc hb1.size _
  have hs1 := hb1.size
  have HB1 := Lib.hid hba
  clear C hb1 hba
  go_wp2_with fail
  refine CN.out.mono ?_
  rintro e w2 ⟨N, Ab, An, As, Ar, cb, cn, cs, cr, top, rfl, hmade, hnm⟩
  have HB2 := Lib.hid (HB1.out.trans (hnm.still.below (by simp; omega) hs1))
  have HMd := Lib.hid hmade
  have HNm := Lib.hid hnm
  have hq := HB2.out.size
  clear CN hnm hmade HB1
  go_wp2_with fail
  have hbn : Below w2.heap.size w2 (w2.alloc (.cells #[.slice Ab N.blocks.length cb, .slice An N.next.length cn, .slice As N.spurs.length cs, .slice Ar N.robots.length cr, Iv N.queue, Iv N.aging, Iv N.detours, Iv N.patience] 31)) := (Below.refl _ _).alloc (Nat.le_refl _) _
  have CD := Lib.hid (refDesc_c Ab An As Ar cb cn cs cr N _ (HNm.out.at_.keep hbn) HMd.out.ok HNm.out.capR)
  have HB3 := Lib.hid (HB2.out.trans (hbn.mono hq))
  clear HNm hbn HB2
  refine CD.out.mono ?_
  generalize w2.alloc (.cells #[.slice Ab N.blocks.length cb, .slice An N.next.length cn, .slice As N.spurs.length cs, .slice Ar N.robots.length cr, Iv N.queue, Iv N.aging, Iv N.detours, Iv N.patience] 31) = w3 at *
  rintro e w4 ⟨v4, rfl, hd4, hb4⟩
  obtain ⟨AD, cD, rfl, hD4⟩ := hd4.at_
  have hfew : (descD N).length ≤ 51 := by rw [lfdesc_length]; exact raw_few HMd.out
  have HB4 := Lib.hid (HB3.out.trans (hb4.mono HB3.out.size))
  have HL4 := Lib.hid (LfList.mk hD4 (by omega) (descD_sz HMd.out.ok))
  have HD4 := Lib.hid (HD.out.keep HB4.out)
  clear CD hd4 hD4 hb4 HB3 HD HMd
  generalize descD N = ds1 at *
  go_wp2_with fail
  have HQ : Hid ((w4.alloc (.cells #[.slice A0 ds0.length c0, .slice AD ds1.length cD] 22)).heap[w4.heap.size]? = some (.cells #[.slice A0 ds0.length c0, .slice AD ds1.length cD] 22 (0, 0))) := Lib.hid (heap_alloc_new w4 _)
  have hb5 : Below w4.heap.size w4 (w4.alloc (.cells #[.slice A0 ds0.length c0, .slice AD ds1.length cD] 22)) := (Below.refl _ _).alloc (Nat.le_refl _) _
  have HB5 := Lib.hid (HB4.out.trans (hb5.mono HB4.out.size))
  have HL5 := Lib.hid (HL4.out.keep hb5)
  have HD5 := Lib.hid (HD4.out.keep hb5)
  clear hb5 HB4 HL4 HD4
  generalize w4.alloc (.cells #[.slice A0 ds0.length c0, .slice AD ds1.length cD] 22) = w5 at *
  generalize w4.heap.size = Q at *
  have HT : Hid (∀ (wr : World) (i : Nat), i < 2 → wr.heap[Q]? = some (.cells #[.slice A0 ds0.length c0, .slice AD ds1.length cD] 22 (0, 0)) → LfList wr A0 ds0 → LfList wr AD ds1 → ∃ A c ds, wr.cell? ⟨Q, i, none⟩ = some (.slice A ds.length c) ∧ LfList wr A ds) := Lib.hid (fun wr i hi hq h0 h1 => by
    have : i = 0 ∨ i = 1 := by omega
    rcases this with rfl | rfl
    · exact ⟨A0, c0, ds0, by rw [cell_of_row _ _ _ _ _ _ hq]; rfl, h0⟩
    · exact ⟨AD, cD, ds1, by rw [cell_of_row _ _ _ _ _ _ hq]; rfl, h1⟩)
  go_loopw [9] (fun iv wr => ∃ i : Nat, iv = .int .i64 i ∧ i ≤ 2 ∧ Hid (wr.heap[Q]? = some (.cells #[.slice A0 ds0.length c0, .slice AD ds1.length cD] 22 (0, 0))) ∧ Hid (LfList wr A0 ds0) ∧ Hid (LfList wr AD ds1) ∧ Hid (Below w.heap.size w wr)) (fun iv _ => 2 - (intOf iv).toNat)
  case atStart => exact ⟨0, rfl, by omega, HQ, HD5, HL5, HB5⟩
  case round =>
    clear HQ HD5 HL5 HB5
    obtain ⟨i, rfl, hi, HQ, HD5, HL5, HB5⟩ := hrel
    by_cases hi2 : i < 2
    · obtain ⟨A, c, ds, hc, hls⟩ := HT.out wr i hi2 HQ.out HD5.out HL5.out
      have HLs := Lib.hid hls
      have hii : (i : Int) < 2 := by omega
      have CF := Lib.hid (format_c2 A c ds wr (HG.out.keep HB5.out) (HP.out.keep HB5.out) hls.at_ hls.few hls.sz)
      clear hls
      go_wp2_with fail
      refine CF.out.mono ?_
      rintro e w6 h6
      obtain ⟨A6, c6, rfl, hr6, hb6⟩ := fmt2 h6
      have HQ6 := Lib.hid ((hb6.block _ (block_lt HQ.out)).trans HQ.out)
      have hc6 := (hb6.cell (p := ⟨Q, i, none⟩) (block_lt HQ.out)).trans hc
      have HD6 := Lib.hid (HD5.out.keep hb6)
      have HL6 := Lib.hid (HL5.out.keep hb6)
      have HLs6 := Lib.hid (HLs.out.keep hb6)
      have HB6 := Lib.hid (HB5.out.trans (hb6.mono HB5.out.size))
      have HR6 := Lib.hid hr6
      have CR := Lib.hid (refFormat_c A c ds w6 HLs6.out.at_ HLs6.out.few HLs6.out.sz)
      clear h6 hb6 hr6 CF HQ HD5 HL5 HB5 HLs hc
      go_wp2_with fail
      refine CR.out.mono ?_
      rintro e w7 h7
      obtain ⟨A7, c7, rfl, hr7, hb7⟩ := fmt2 h7
      have HQ7 := Lib.hid ((hb7.block _ (block_lt HQ6.out)).trans HQ6.out)
      have HD7 := Lib.hid (HD6.out.keep hb7)
      have HL7 := Lib.hid (HL6.out.keep hb7)
      have HLs7 := Lib.hid (HLs6.out.keep hb7)
      have hc7 := (hb7.cell (p := ⟨Q, i, none⟩) (block_lt HQ6.out)).trans hc6
      have HB7 := Lib.hid (HB6.out.trans (hb7.mono HB6.out.size))
      have CS := Lib.hid (sameLinesI_c A6 A7 c6 c7 _ (fmtL ds) rfl w7 (HR6.out.keep hb7) hr7 (fmtL_len HLs7.out.few) (fun l hl => fmtL_few HLs7.out.sz l hl))
      clear h7 hb7 hr7 CR HQ6 HD6 HL6 HLs6 HB6 HR6 hc6
      have hne : (fmtE ds != fmtE ds) = false := by simp
      generalize fmtE ds = er at *
      generalize (fmtL ds).length = nl at *
      go_wp2_with fail
      refine CS.out.mono ?_
      rintro e w8 ⟨rfl, n8, rfl⟩
      have hb8 : Below w7.heap.size w7 (w7.drewN n8) := below_drewN (Below.refl _ _) n8
      have HQ8 := Lib.hid ((hb8.block _ (block_lt HQ7.out)).trans HQ7.out)
      have HD8 := Lib.hid (HD7.out.keep hb8)
      have HL8 := Lib.hid (HL7.out.keep hb8)
      have HLs8 := Lib.hid (HLs7.out.keep hb8)
      have hc8 := (hb8.cell (p := ⟨Q, i, none⟩) (block_lt HQ7.out)).trans hc7
      have HB8 := Lib.hid (HB7.out.trans (hb8.mono HB7.out.size))
      clear hb8 CS HQ7 HD7 HL7 HLs7 HB7 hc7
      generalize w7.drewN n8 = w8 at *
      have HC8 := Lib.hid hc8
      go_wp2_with fail
      go_loopw [14] (fun kv wr => ∃ k : Nat, kv = .int .i64 k ∧ k ≤ ds.length ∧ Hid (Below w8.heap.size w8 wr)) (fun kv _ => ds.length - (intOf kv).toNat)
      case atStart => exact ⟨0, rfl, Nat.zero_le _, Lib.hid (Below.refl _ _)⟩
      case round =>
        clear hc8
        obtain ⟨k, rfl, hk, HW⟩ := hrel
        have hbq := block_lt HQ8.out
        have hcw : wr.cell? ⟨Q, i, none⟩ = some (.slice A ds.length c) := (HW.out.cell (p := ⟨Q, i, none⟩) hbq).trans HC8.out
        by_cases hlt : k < ds.length
        · have hki : (k : Int) < (ds.length : Int) := by omega
          obtain ⟨b, o, N1, k1, N2, k2, rfl, e0, e1, e2, e3, g1, g2⟩ := (HLs8.out.keep HW.out).at_.one hlt
          have hS := HLs8.out.sz ds[k] (List.getElem_mem hlt)
          have hfw := HLs8.out.few
          have hbb : b < wr.heap.size := World.block_lt_of_cell? _ _ e0
          have hQw : Q < wr.heap.size := Nat.lt_of_lt_of_le hbq HW.out.size
          have HSw := Lib.hid (HG.out.keep (HB8.out.trans (HW.out.mono HB8.out.size)))
          have CV := Lib.hid (fun W (hb : Below wr.heap.size wr W) => valid_c ds[k] N1 N2 k1 k2 W (HSw.out.keep hb) (g1.keep hb) (g2.keep hb) hS.names (by have := hS.nums; omega) hS.each)
          have CU := Lib.hid (fun W (hb : Below wr.heap.size wr W) => refValid_c ds[k] N1 N2 k1 k2 W (g1.keep hb) (g2.keep hb) hS.names (by have := hS.nums; omega) hS.each)
          have HS : Hid (∀ W, Below wr.heap.size wr W → (W.cell? ⟨Q, i, none⟩ = some (.slice (some ⟨b, o, none⟩) ds.length c)) ∧ W.cell? ⟨b, o + k * 4, none⟩ = some (.int .i64 ds[k].word) ∧ W.cell? ⟨b, o + k * 4 + 1, none⟩ = some (.int .i64 ds[k].line) ∧ W.cell? ⟨b, o + k * 4 + 2, none⟩ = some (.slice N1 ds[k].names.length k1) ∧ W.cell? ⟨b, o + k * 4 + 3, none⟩ = some (.slice N2 ds[k].nums.length k2)) := Lib.hid (fun W hW =>
            ⟨(hW.cell (p := ⟨Q, i, none⟩) hQw).trans hcw, (hW.cell (p := ⟨b, _, none⟩) hbb).trans e0, (hW.cell (p := ⟨b, _, none⟩) hbb).trans e1, (hW.cell (p := ⟨b, _, none⟩) hbb).trans e2, (hW.cell (p := ⟨b, _, none⟩) hbb).trans e3⟩)
          have hvv : (validB ds[k] != validB ds[k]) = false := by simp
          clear g1 g2 hS HSw e0 e1 e2 e3
          generalize validB ds[k] = vb at *
          generalize ds[k].names.length = n1 at *
          generalize ds[k].nums.length = n2 at *
          generalize ds[k].word = dw at *
          generalize ds[k].line = dl at *
          have hbw : Below wr.heap.size wr wr := Below.refl _ _
          go_wp2_with fail
          go_cut [85] from 60 to 85 (fun p wx => p = .bool false ∧ Hid (Below wr.heap.size wr wx))
          case first =>
            go_region_held3 (fun W => (W.cell? ⟨Q, i, none⟩ = some (.slice (some ⟨b, o, none⟩) ds.length c)) ∧ W.cell? ⟨b, o + k * 4, none⟩ = some (.int .i64 dw) ∧ W.cell? ⟨b, o + k * 4 + 1, none⟩ = some (.int .i64 dl) ∧ W.cell? ⟨b, o + k * 4 + 2, none⟩ = some (.slice N1 n1 k1) ∧ W.cell? ⟨b, o + k * 4 + 3, none⟩ = some (.slice N2 n2 k2)) (first | exact HS.out _ (by repeat (first | assumption | (with_reducible exact Below.refl _ _) | (with_reducible refine Below.drew ?_)))) (first
              | (go_at_call 10; (with_reducible refine (CV.out _ (by repeat (first | assumption | (with_reducible exact Below.refl _ _) | (with_reducible refine Below.drew ?_)))).mono ?_); rintro e wA ⟨rfl, hbA⟩; have hbA2 : Below wr.heap.size wr wA := below_later (by repeat (first | assumption | (with_reducible exact Below.refl _ _) | (with_reducible refine Below.drew ?_))) hbA)
              | (go_at_call 11; (with_reducible refine (CU.out _ (by repeat (first | assumption | (with_reducible exact Below.refl _ _) | (with_reducible refine Below.drew ?_)))).mono ?_); rintro e wB ⟨rfl, hbB⟩; have hbB2 : Below wr.heap.size wr wB := below_later (by repeat (first | assumption | (with_reducible exact Below.refl _ _) | (with_reducible refine Below.drew ?_))) hbB))
            all_goals
              go_wp2_with fail
              go_meet
              case rel => exact ⟨rfl, Lib.hid (by repeat (first | assumption | (with_reducible exact Below.refl _ _) | (with_reducible refine Below.drew ?_)))⟩
          case rest =>
            obtain ⟨rfl, HWc⟩ := hcut
            have HW2 := Lib.hid (HW.out.trans (HWc.out.mono HW.out.size))
            clear HWc HS CV CU hvv hbw hcw
            go_wp2
            go_roundw
            case rel => exact ⟨k + 1, by go_num, by omega, HW2⟩
            case measure => simp [intOf]; omega
        · have HQ9 := Lib.hid ((HW.out.block _ hbq).trans HQ8.out)
          have HD9 := Lib.hid (HD8.out.keep HW.out)
          have HL9 := Lib.hid (HL8.out.keep HW.out)
          have HB9 := Lib.hid (HB8.out.trans (HW.out.mono HB8.out.size))
          have hkn : ¬ (k : Int) < (ds.length : Int) := by omega
          clear HQ8 HD8 HL8 HB8 HLs8 HW
          go_wp2
          go_roundw
          case rel => exact ⟨i + 1, by go_num, by omega, HQ9, HD9, HL9, HB9⟩
          case measure => simp [intOf]; omega
    · obtain rfl : i = 2 := by omega
      go_wp2
      go_ret
      exact ⟨rfl, HB5.out⟩
end Go.Proofs.YtgjnhefmheefbaaDoor
