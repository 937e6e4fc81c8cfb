/- Joined texts. -/
import Derived.Test.YtpehpnpkgjcjbaaGreatDoorMjF
import Derived.Test.YtpehpnpkgjcjbaaGreatDoorDsJoin
import Derived.Test.YtpehpnpkgjcjbaaGreatDoorMjE
import Derived.Test.YtpehpnpkgjcjbaaGreatDoorMjG
import Derived.Test.YtpehpnpkgjcjbaaGreatDoorMjD
import Derived.Test.YtpehpnpkgjcjbaaGreatDoorMjH
import Derived.Test.YtpehpnpkgjcjbaaGreatDoorMjB
import Derived.Test.YtpehpnpkgjcjbaaGreatDoorMjC
import Derived.Test.YtpehpnpkgjcjbaaGreatDoorNmNet
import Derived.Test.YtpehpnpkgjcjbaaGreatDoorNmLs
import Derived.OpenShut
import Derived.Carry
import Derived.SizedLaws
import Derived.Test.YtpehpnpkgjcjbaaGreatDoorCards
import Derived.Test.YtpehpnpkgjcjbaaGreatDoorTie
import Derived.WalkKit
import Derived.ProofKit
import Derived.MakeChecks
import Derived.Deep.DeepHandedRow
import Derived.Test.YtpehpnpkgjcjbaaGreatDoorLitTab
import Derived.Test.YtpehpnpkgjcjbaaGreatDoorMjA
namespace Go.Proofs.YtpehpnpkgjcjbaaGreatDoor
open Go.RowKit Fl
attribute [local go_sem] bget

theorem descD_length (N : NetD) : (descD N).length = (rawDecls N).length := lineFrom_length _ _
theorem join_desc (N : NetD) (hN : NetOk N) (A : Option Addr) (c : Nat) (t : List UInt8) (w : World) (h : RawAt w A ((descD N).map lineOf)) (hl : (descD N).length ≤ 51) (ht : joinT ((descD N).map lineOf) = .ok t) :
    Calls Tryz.prog 8 #[.slice A (descD N).length c] w fun e w' => e = .returned (.tuple #[.string ⟨t.toArray⟩, .int .i64 0]) ∧ Below w.heap.size w w' := by
  have hf : ∀ x ∈ (descD N).map lineOf, x.2.all fieldOk = true ∧ x.2.length ≤ 5 := fun x hx => by
    obtain ⟨d, hd, rfl⟩ := List.mem_map.1 hx
    have := line_fields hN (descD_ok hN d hd)
    exact ⟨this.1, this.2.1⟩
  have hn : ∀ x ∈ (descD N).map lineOf, -9223372036854775808 ≤ x.1 ∧ x.1 ≤ 9223372036854775807 := fun x hx => by
    obtain ⟨d, hd, rfl⟩ := List.mem_map.1 hx
    obtain ⟨e, _, z, rfl, h1, h2⟩ := lineFrom_mem _ _ _ hd
    have := descD_length N
    show (-9223372036854775808 : Int) ≤ z ∧ z ≤ 9223372036854775807
    omega
  have := join_c A c ((descD N).map lineOf) w h (by rw [List.length_map]; omega) (fun x hx => by have := (hf x hx).2; omega) (fun x hx f hfx => by
    have := fieldOk_len (List.all_eq_true.1 (hf x hx).1 f hfx)
    unfold maxLen; omega) hn
  rw [List.length_map] at this
  exact this.mono fun e w' hp => by
    unfold JoinPost at hp; rw [ht] at hp; exact ⟨hp.2, hp.1⟩
theorem lines_desc (t : List UInt8) (ls : List LineD) (n : Nat) (hn : ls.length = n) (m : Int) (w : World) (hm : w.cell? ⟨1, 0, none⟩ = some (.int .i64 m)) (hs : t.length ≤ maxLen) (h : linesT t = .ok ls) :
    Calls Tryz.prog 9 #[.string ⟨t.toArray⟩] w fun e w' => ∃ A c, e = .returned (.tuple #[.slice A n c, .int .i64 0, .int .i64 0]) ∧ Below w.heap.size w w' ∧ RawAt w' A (ls.map toI) :=
  (lines_c2 t m w hm hs).mono fun e w' hp => by
    subst hn
    unfold LinesPost2 at hp; rw [h] at hp
    obtain ⟨hb, base, v, he, hl⟩ := hp
    obtain ⟨A, c, rfl⟩ : ∃ A c, v = .slice A ls.length c := by obtain ⟨_, _, hown, _⟩ := hl; exact own_slice hown
    exact ⟨A, c, he, hb, hl.raw⟩
theorem parse_desc_c (N : NetD) (hN : NetOk N) (A : Option Addr) (c : Nat) (ls : List LineD) (w : World) (hg : Shapes w) (hr : RawAt w A (ls.map toI)) (hls : ls.map toI = (descD N).map lineOf) (hl : (descD N).length ≤ 51) :
    Calls Tryz.prog 10 #[.slice A (descD N).length c] w fun e w' => ∃ A' c', e = .returned (.tuple #[.slice A' (descD N).length c', .int .i64 0, .int .i64 0]) ∧ Below w.heap.size w w' ∧ DeclsAt w' A' (descD N) := by
  rw [hls] at hr
  have hf : ∀ x ∈ (descD N).map lineOf, x.2.all fieldOk = true ∧ x.2.length ≤ 5 := fun x hx => by
    obtain ⟨d, hd, rfl⟩ := List.mem_map.1 hx
    have := line_fields hN (descD_ok hN d hd)
    exact ⟨this.1, this.2.1⟩
  have := parse_c A c ((descD N).map lineOf) w hg hr (by rw [List.length_map]; omega) (fun x hx => by have := (hf x hx).2; omega) (fun x hx f hfx => by
    have := fieldOk_len (List.all_eq_true.1 (hf x hx).1 f hfx)
    omega)
  rw [List.length_map, parse_desc hN] at this
  exact this.mono fun e w' hp => by
    obtain ⟨hb, v, he, hd⟩ := hp
    obtain ⟨A', c', rfl, hD⟩ := hd.at_
    exact ⟨A', c', he, hb, hD⟩
set_option maxRecDepth 100000 in
set_option maxHeartbeats 4000000 in
theorem layoutTexts_c (A0 : Option Addr) (c0 : Nat) (zs : List Int) (m : Int) (w : World) (hz : IntsAt w w.heap.size A0 zs) (hl : zs.length ≤ maxLen) (hg : Shapes w) (hp : Pows w) (hm : w.cell? ⟨1, 0, none⟩ = some (.int .i64 m)) :
    Calls Tryz.prog 3 #[.slice A0 zs.length c0] w fun e w' => e = .returned (.bool true) ∧ Below w.heap.size w w' := by
  have C := Lib.hid (known2_c w hg)
  have HG := Lib.hid hg
  have HP := Lib.hid hp
  have HM := Lib.hid hm
  have HZ := Lib.hid hz
  have HL := Lib.hid hl
  clear hg hp hz hm hl
  go_enter Tryz.func3, Tryz.ntmps3
  go_wp2_with fail
  refine C.out.mono ?_
  rintro e w1 ⟨rfl, hb1⟩
  have CN := Lib.hid (net_c w.heap.size w1.heap.size 0 6 _ (tape_new (c := c0) HZ.out (Nat.le_refl _) hb1 HL.out) (by omega) ⟨by omega, by omega⟩ (by simp) hb1.size)
  have hba : Below w.heap.size w (w1.alloc (.cells #[.slice A0 zs.length c0, .int .i64 0] 38)) := hb1.alloc hb1.size _
  have hs1 := hb1.size
  have HB1 := Lib.hid hba
  clear C hb1 hba
  go_wp2_with fail
  refine CN.out.mono ?_
  rintro e w2 ⟨N, Ab, An, As, Ar, cb, cn, cs, cr, top, rfl, hmade, hnm⟩
  have HB2 := Lib.hid (HB1.out.trans (hnm.still.below (by simp; omega) hs1))
  have CD := Lib.hid (refDesc_c Ab An As Ar cb cn cs cr N w2 hnm.at_ hmade.ok hnm.capR)
  have HMd := Lib.hid hmade
  clear CN hnm hmade HB1
  have hq := HB2.out.size
  go_wp2_with fail
  refine CD.out.mono ?_
  rintro e w3 ⟨v3, rfl, hd3, hb3⟩
  obtain ⟨AD, cD, rfl, hD3⟩ := hd3.at_
  have hfew : (descD N).length ≤ 51 := by rw [descD_length]; exact raw_few HMd.out
  obtain ⟨t, ht, htl, hlt, hli⟩ := desc_text HMd.out
  have HT := Lib.hid ht
  have HLT := Lib.hid hlt
  have HLI := Lib.hid hli
  have HB3 := Lib.hid (HB2.out.trans (hb3.mono HB2.out.size))
  have CF := Lib.hid (format_c AD cD (descD N) w3 (HG.out.keep HB3.out) (HP.out.keep HB3.out) hD3 (by omega) (descD_fmt HMd.out.ok))
  have HD3 := Lib.hid hD3
  clear CD HB2 hb3 hd3 hD3 ht hlt hli hq
  go_wp2_with fail
  refine CF.out.mono ?_
  rintro e w4 ⟨hb4, v4, rfl, hL4⟩
  obtain ⟨AX, cX, rfl⟩ : ∃ A c, v4 = .slice A ((descD N).map lineOf).length c := by obtain ⟨_, _, hown, _⟩ := hL4; exact own_slice hown
  have HB4 := Lib.hid (HB3.out.trans (hb4.mono HB3.out.size))
  have HD4 := Lib.hid (HD3.out.keep hb4)
  have CJ := Lib.hid (join_desc N HMd.out.ok AX cX t w4 hL4.raw hfew HT.out)
  rw [List.length_map]
  clear CF hb4 HB3 hL4 HD3
  go_wp2_with fail
  refine CJ.out.mono ?_
  rintro e w5 ⟨rfl, hb5⟩
  have HB5 := Lib.hid (HB4.out.trans (hb5.mono HB4.out.size))
  have HD5 := Lib.hid (HD4.out.keep hb5)
  have CL := Lib.hid (lines_desc t ((descD N).map lineD) (descD N).length (List.length_map _) m w5 ((HB5.out.cell (World.block_lt_of_cell? _ _ HM.out)).trans HM.out) (by unfold maxLen; omega) HLT.out)
  clear CJ hb5 HB4 HD4
  go_wp2_with fail
  refine CL.out.mono ?_
  rintro e w6 ⟨AY, cY, rfl, hb6, hR6⟩
  have HB6 := Lib.hid (HB5.out.trans (hb6.mono HB5.out.size))
  have HD6 := Lib.hid (HD5.out.keep hb6)
  have CP := Lib.hid (parse_desc_c N HMd.out.ok AY cY ((descD N).map lineD) w6 (HG.out.keep HB6.out) hR6 HLI.out hfew)
  clear CL hb6 hR6 HB5 HD5
  go_wp2_with fail
  refine CP.out.mono ?_
  rintro e w7 ⟨AZ, cZ, rfl, hb7, hD7⟩
  have HB7 := Lib.hid (HB6.out.trans (hb7.mono HB6.out.size))
  have CS := Lib.hid (sameDecls_eq AD AZ cD cZ (descD N) w7 (HD6.out.keep hb7) hD7 (by omega) (fun d hd => by have := (descD_ok HMd.out.ok d hd).small; omega) (fun d hd => by have := (descD_ok HMd.out.ok d hd).small; omega))
  clear CP hb7 hD7 HB6 HD6
  go_wp2_with fail
  refine CS.out.mono ?_
  rintro e w8 ⟨rfl, n8, rfl⟩
  have HB8 := Lib.hid (below_drewN HB7.out n8)
  clear CS HB7
  go_wp2
  go_ret
  exact ⟨rfl, HB8.out⟩
end Go.Proofs.YtpehpnpkgjcjbaaGreatDoor
namespace Go.Proofs.YtpehpnpkgjcjbaaGreatDoor
open Go.ChangeShapes Go.WideShapes Go.ChangeAt Go.RowKit

theorem laidOut : laidOutB Tryz.prog = true := by kernel_rfl
theorem cellsInt : Tryz.prog.cellsOf 3 = 1 := by kernel_rfl
set_option maxRecDepth 100000 in
/-- An argument of type []int holds a list of numbers. -/
theorem open_list {H : Type} {enc : TypeId × Value → H} {W : World} {v : Value} {d : DataW H} {p : List MemPlace} {base : Nat}
    (hok : Value.okWide Tryz.prog W .any base 22 v) (h : DataW.Trod enc Tryz.prog W 0 (fun _ => true) true 22 v d p) :
    ∃ (A : Option Addr) (c : Nat) (zs : List Int), v = .slice A zs.length c ∧ IntsAt W W.heap.size A zs ∧ zs.length ≤ maxLen := by
  obtain ⟨a0, len, cap, rfl⟩ := okWide_slice Tryz.underlying22 hok
  obtain ⟨fuel, hf⟩ := h
  rcases open_ints Tryz.underlying22 Tryz.underlying3 cellsInt hf with ⟨hcs, hx⟩ | ⟨a, len', cap', zs, hcs, _, hl, hm, hz, hx, hcell, hwz⟩
  · simp [Value.cells] at hcs
    obtain ⟨rfl, rfl, rfl⟩ := hcs
    exact ⟨none, 0, [], rfl, fun h => by simp at h, by simp⟩
  · simp [Value.cells] at hcs
    obtain ⟨rfl, rfl, rfl⟩ := hcs
    simp only [if_true] at hz
    have hlen : (zs.take len).length = len := by simp; omega
    refine ⟨some a, cap, zs.take len, by rw [hlen], fun hn => ?_, by rw [hlen]; omega⟩
    rw [hlen] at hn
    obtain ⟨b, off, rfl, hc⟩ := ints_at hcell (by omega)
    refine ⟨b, off, rfl, World.block_lt_of_cell? _ _ (hc 0 (by omega)), fun j hj => ?_⟩
    rw [hlen] at hj
    have hjz : j < zs.length := by omega
    have hwj := bounds_i64 (hwz _ (List.getElem_mem hjz))
    have e : (zs.take len)[j]'(by rw [hlen]; exact hj) = zs[j] := by simp
    rw [e]
    refine ⟨?_, hwj.1, hwj.2⟩
    rw [hc j hjz]
    simp [List.getD, hjz]
end Go.Proofs.YtpehpnpkgjcjbaaGreatDoor
namespace Go.Proofs.YtpehpnpkgjcjbaaGreatDoor
open Go.ChangeShapes Go.WideShapes Go.ChangeAt Go.RowKit Fl

theorem own_none : ownKnob Tryz.prog.godebug = none := by kernel_rfl
noncomputable def setCells (cs : Array Value) : Obj → Obj
  | .cells _ t frozen => .cells cs t frozen
  | o => o
noncomputable def firstCells : Array Value := (Go.Pinned.utf8FirstZ.map fun (n : Nat) => Value.int .u8 (n : Int)).toArray
noncomputable def laidWorld6 (os : Os) : World :=
  { World.holding Tryz.prog os ⟨#[], #[], []⟩ with heap := ((((((World.holding Tryz.prog os ⟨#[], #[], []⟩).heap.modify 0 (setCells shapeCells)).modify 2 (setCells (flatD (Rows.laid_internal_strconv_uint64pow10 : DataW Unit)).toArray)).modify 5 (setCells (flatD (Rows.laid_math_bits_deBruijn32tab : DataW Unit)).toArray)).modify 6 (setCells (flatD (Rows.laid_math_bits_deBruijn64tab : DataW Unit)).toArray)).modify 4 (setCells (flatD (Rows.laid_unicode_utf8_acceptRanges : DataW Unit)).toArray)).modify 3 (setCells firstCells) }
set_option maxRecDepth 100000 in
theorem laid_at6 (os : Os) (args : Array Value) : laidMet Tryz.prog Rows.layoutTextsRow.laid ((laidWorld6 os).forCall (fun _ _ => 0) ⟨#[], args, []⟩).memory :=
  laidMet_of_run' 8 (by kernel_rfl) (by kernel_rfl)
/-- The condition on the table of shapes. -/
theorem shapes_of_laid {W : World} {l : List (String × DataW Unit)} (h : laidMet Tryz.prog l W) (hm : ("blockway/layout.shapes", Rows.laid_blockway_layout_shapes) ∈ l) : Shapes W := by
  obtain ⟨ty, fr, hh⟩ := laid_row h hm (m := 5) (g := 0) (by kernel_rfl) rfl (by kernel_rfl)
  exact ⟨ty, fr, hh⟩
/-- The condition on the powers of ten. -/
theorem pows_of_laid {W : World} {l : List (String × DataW Unit)} (h : laidMet Tryz.prog l W) (hm : ("internal/strconv.uint64pow10", Rows.laid_internal_strconv_uint64pow10) ∈ l) : Pows W := by
  have hg : Tryz.prog.globalNamed "internal/strconv.uint64pow10" = some 2 := by kernel_rfl
  obtain ⟨ty, fr, hh⟩ := laid_row h hm (m := 5) hg rfl (by kernel_rfl)
  unfold Pows Lib.TabIs World.var?
  rw [hg, Option.bind_some, hh]
  exact congrArg some (by kernel_rfl)
end Go.Proofs.YtpehpnpkgjcjbaaGreatDoor
