/- RegisterOffers returns true: register's functions return what the reference returns, for all senders. -/
import Derived.Test.YtpiofjhcagdklaaRgOffersA
import Derived.Deep.RegionHeld3
import Derived.Deep.DeepCutAuto
namespace Go.Proofs.Ytpiofjhcagdklaa
open Go Go.RowKit Fl

set_option maxRecDepth 100000 in
set_option maxHeartbeats 8000000 in
theorem registerOffers_c (s : SndD) (n0 n1 n2 q0 q1 : Int) (w : World) (hs : U64 s.seq) (hn0 : -9223372036854775808 ≤ n0 ∧ n0 ≤ 9223372036854775807) (hn1 : -9223372036854775808 ≤ n1 ∧ n1 ≤ 9223372036854775807) (hq0 : U64 q0) :
    Calls Try.prog 3 #[SV s, .agg #[.int .i64 n0, .int .i64 n1, .int .i64 n2], .agg #[.int .u64 q0, .int .u64 q1]] w fun e w' => e = .returned (.bool true) ∧ Below w.heap.size w w' := by
  have CK := Lib.hid known15_c
  have HS0 := Lib.hid hs
  obtain ⟨a1, a2⟩ := hq0
  clear hs
  go_enter Try.func3, Try.ntmps3
  go_wp2_with fail
  have HX0 := Lib.hid (((SnAt.new w s).alloc (.cells #[.int .i64 n0, .int .i64 n1, .int .i64 n2] 25)).alloc (.cells #[.int .u64 q0, .int .u64 q1] 26))
  have HN0 : Hid (BlkAt (((w.alloc (.cells (SC s) 24)).alloc (.cells #[.int .i64 n0, .int .i64 n1, .int .i64 n2] 25)).alloc (.cells #[.int .u64 q0, .int .u64 q1] 26)) (w.heap.size + 1) #[.int .i64 n0, .int .i64 n1, .int .i64 n2] 25) := Lib.hid (by
    have := BlkAt.new (w.alloc (.cells (SC s) 24)) #[.int .i64 n0, .int .i64 n1, .int .i64 n2] 25
    rw [show (w.alloc (.cells (SC s) 24)).heap.size = w.heap.size + 1 by simp] at this
    exact this.keep (below_newF _ _))
  have HQ0 : Hid (BlkAt (((w.alloc (.cells (SC s) 24)).alloc (.cells #[.int .i64 n0, .int .i64 n1, .int .i64 n2] 25)).alloc (.cells #[.int .u64 q0, .int .u64 q1] 26)) (w.heap.size + 1 + 1) #[.int .u64 q0, .int .u64 q1] 26) := Lib.hid (by
    have := BlkAt.new ((w.alloc (.cells (SC s) 24)).alloc (.cells #[.int .i64 n0, .int .i64 n1, .int .i64 n2] 25)) #[.int .u64 q0, .int .u64 q1] 26
    rwa [show ((w.alloc (.cells (SC s) 24)).alloc (.cells #[.int .i64 n0, .int .i64 n1, .int .i64 n2] 25)).heap.size = w.heap.size + 1 + 1 by simp] at this)
  have HB0 : Hid (Below w.heap.size w (((w.alloc (.cells (SC s) 24)).alloc (.cells #[.int .i64 n0, .int .i64 n1, .int .i64 n2] 25)).alloc (.cells #[.int .u64 q0, .int .u64 q1] 26))) := Lib.hid (((below_newF _ _).alloc (by simp) _).alloc (by simp; omega) _)
  generalize (((w.alloc (.cells (SC s) 24)).alloc (.cells #[.int .i64 n0, .int .i64 n1, .int .i64 n2] 25)).alloc (.cells #[.int .u64 q0, .int .u64 q1] 26)) = w0 at *
  refine (CK.out _).mono ?_
  rintro e w1 ⟨rfl, hb1⟩
  have HX1 := Lib.hid (HX0.out.keep hb1)
  have HN1 := Lib.hid (HN0.out.keep hb1)
  have HQ1 := Lib.hid (HQ0.out.keep hb1)
  have HB1 := Lib.hid (HB0.out.trans (hb1.mono HB0.out.size))
  clear hb1 HX0 HN0 HQ0 HB0
  generalize hP : w.heap.size = P at *
  have HPe := Lib.hid hP
  obtain ⟨x0, x1, x2, x3⟩ := HX1.out.cell
  have m0 := HN1.out.at_ 0
  have m2 := HN1.out.at_ 2
  have p0 := HQ1.out.at_ 0
  simp only [List.getElem?_toArray, List.getElem?_cons_zero, List.getElem?_cons_succ] at m0 m2 p0
  obtain ⟨o2, ho2⟩ : ∃ b, (n2.tmod 2 == 0) = b := ⟨_, rfl⟩
  clear CK hP
  go_wp2_with fail
  have HM : Hid (U64 (18446744073709551615 - q0 % 3)) := Lib.hid ⟨by omega, by omega⟩
  generalize 18446744073709551615 - q0 % 3 = M at *
  have hcs : (#[.int .u64 s.seq, .bool s.isOpen, .int .i64 s.cell, .int .i64 s.flag, .int .u64 q0, .bool o2, .int .i64 1, .int .i64 0, .int .u64 M, .bool false, .int .i64 0, .int .i64 0] : Array Value).toList = snC [s, ⟨q0, o2, 1, 0⟩, ⟨M, false, 0, 0⟩] := rfl
  have hlen : [s, (⟨q0, o2, 1, 0⟩ : SndD), ⟨M, false, 0, 0⟩].length = 3 := rfl
  have HU : Hid (∀ x ∈ [s, (⟨q0, o2, 1, 0⟩ : SndD), ⟨M, false, 0, 0⟩], U64 x.seq) := Lib.hid (by
    intro x hx
    simp only [List.mem_cons, List.not_mem_nil, or_false] at hx
    rcases hx with rfl | rfl | rfl
    · exact HS0.out
    · exact ⟨a1, a2⟩
    · exact HM.out)
  have HL1 := Lib.hid (BlkAt.new w1 #[.int .u64 s.seq, .bool s.isOpen, .int .i64 s.cell, .int .i64 s.flag, .int .u64 q0, .bool o2, .int .i64 1, .int .i64 0, .int .u64 M, .bool false, .int .i64 0, .int .i64 0] 24)
  have HN2 := Lib.hid (HN1.out.keep (below_newF w1 (.cells #[.int .u64 s.seq, .bool s.isOpen, .int .i64 s.cell, .int .i64 s.flag, .int .u64 q0, .bool o2, .int .i64 1, .int .i64 0, .int .u64 M, .bool false, .int .i64 0, .int .i64 0] 24)))
  have HQ2 := Lib.hid (HQ1.out.keep (below_newF w1 (.cells #[.int .u64 s.seq, .bool s.isOpen, .int .i64 s.cell, .int .i64 s.flag, .int .u64 q0, .bool o2, .int .i64 1, .int .i64 0, .int .u64 M, .bool false, .int .i64 0, .int .i64 0] 24)))
  have HB2 := Lib.hid (HB1.out.alloc (by have h1 := HB1.out.size; have h2 := HPe.out; omega) (.cells #[.int .u64 s.seq, .bool s.isOpen, .int .i64 s.cell, .int .i64 s.flag, .int .u64 q0, .bool o2, .int .i64 1, .int .i64 0, .int .u64 M, .bool false, .int .i64 0, .int .i64 0] 24))
  generalize w1.alloc (.cells #[.int .u64 s.seq, .bool s.isOpen, .int .i64 s.cell, .int .i64 s.flag, .int .u64 q0, .bool o2, .int .i64 1, .int .i64 0, .int .u64 M, .bool false, .int .i64 0, .int .i64 0] 24) = w2 at *
  generalize w1.heap.size = L at *
  generalize (#[.int .u64 s.seq, .bool s.isOpen, .int .i64 s.cell, .int .i64 s.flag, .int .u64 q0, .bool o2, .int .i64 1, .int .i64 0, .int .u64 M, .bool false, .int .i64 0, .int .i64 0] : Array Value) = cs at *
  generalize [s, (⟨q0, o2, 1, 0⟩ : SndD), ⟨M, false, 0, 0⟩] = l at *
  have HM0 := Lib.hid (fun W hW => (HN2.out.keep (w' := W) hW).at_ 0)
  clear HX1 HN1 HQ1 HB1 x0 x1 x2 x3 m0 m2 p0 HM HS0 a1 a2 ho2
  simp only [List.getElem?_toArray, List.getElem?_cons_zero] at HM0
  have CU : Hid (∀ W, Calls Try.prog 6 #[.int .i64 n0, .int .i64 50] W fun e w' => e = .returned (.int .i64 (cutN n0 50 : Nat)) ∧ W = w') := Lib.hid (fun W => cutN_c n0 50 W (by omega) (by omega) hn0.1 hn0.2)
  have hcl : cutN n0 50 < 50 := cutN_lt (by omega)
  have hcw : IntKind.i64.wrap ((cutN n0 50 : Int) - 1) = (cutN n0 50 : Int) - 1 := IntWalk.i64_in _ ⟨by omega, by omega⟩
  generalize cutN n0 50 = k0 at *
  go_cut [8] (fun p wx => ∃ C, p = .slice (some ⟨C, 0, none⟩) 2 2 ∧ Hid (BlkAt wx C #[.int .i64 n0, .int .i64 ((k0 : Int) - 1)] 3) ∧ Hid (Below w2.heap.size w2 wx))
  case first =>
    go_region_held3 (fun W => W.cell? ⟨P + 1, 0, none⟩ = some (.int .i64 n0)) ((refine HM0.out _ ?_; repeat (first | (with_reducible exact Below.refl _ _) | (with_reducible refine Below.drew ?_) | (with_reducible refine Below.alloc ?_ (Nat.le_refl _) _)))) (first | (go_at_call 6; (with_reducible refine (CU.out _).mono ?_); rintro e wC ⟨rfl, rfl⟩))
    all_goals
      go_wp2_with fail
      go_meet
      case rel =>
        exact ⟨_, rfl, Lib.hid (BlkAt.new w2.drew _ _), Lib.hid ((Below.refl _ _).drew.alloc (Nat.le_refl _) _)⟩
  case rest =>
    obtain ⟨C, rfl, HC, HL3⟩ := hcut
    have HLc := Lib.hid (HL1.out.keep HL3.out)
    have HNc := Lib.hid (HN2.out.keep HL3.out)
    have HQc := Lib.hid (HQ2.out.keep HL3.out)
    have HBc := Lib.hid (HB2.out.trans (HL3.out.mono (by have h1 := HB2.out.size; have h2 := HPe.out; omega)))
    generalize wc = w3 at *
    generalize n0 = m0 at *
    have HB_w3 : Hid (Below w3.heap.size w3 w3) := Lib.hid (Below.refl _ _)
    clear HL1 HN2 HQ2 HB2 HM0 CU HL3 hcl hcw
    generalize (k0 : Int) - 1 = m1 at *
    go_wp2_with fail
    go_loopw [9] (fun i wr => ∃ q : Nat, i = .int .i64 (q : Int) ∧ q ≤ 3 ∧ Hid (Below w3.heap.size w3 wr)) (fun i _ => 3 - (intOf i).toNat)
    case atStart => exact ⟨0, rfl, by omega, HB_w3⟩
    case round =>
      clear HB_w3
      obtain ⟨q, rfl, hq, HB_wr⟩ := hrel
      by_cases hlt : q < 3
      · have hlt' : (q : Int) < 3 := by omega
        obtain ⟨sq, hsq, hsu⟩ := three_cases hlen hlt HU.out
        have HSL := Lib.hid (fun W hW => blk_sn (HLc.out.keep (w' := W) hW) hcs hsq)
        have HSC := Lib.hid (fun W hW (i : Nat) => (HC.out.keep (w' := W) hW).at_ i)
        have HSN := Lib.hid (fun W hW (i : Nat) => (HNc.out.keep (w' := W) hW).at_ i)
        have HSQ := Lib.hid (fun W hW (i : Nat) => (HQc.out.keep (w' := W) hW).at_ i)
        have HSU := Lib.hid hsu
        clear hsu hsq
        go_wp2_with fail
        go_loopw [10] (fun k wr => ∃ j : Nat, k = .int .i64 (j : Int) ∧ j ≤ 2 ∧ Hid (Below w3.heap.size w3 wr)) (fun k _ => 2 - (intOf k).toNat)
        case atStart => exact ⟨0, rfl, by omega, HB_wr⟩
        case round =>
          clear HB_wr
          obtain ⟨j, rfl, hj, HB_wr⟩ := hrel
          by_cases hjl : j < 2
          · have hjl' : (j : Int) < 2 := by omega
            obtain ⟨cj, hcj⟩ : ∃ cj, (#[Value.int .i64 m0, .int .i64 m1] : Array Value)[j]? = some (.int .i64 cj) := by
              have : j = 0 ∨ j = 1 := by omega
              rcases this with rfl | rfl
              · exact ⟨m0, rfl⟩
              · exact ⟨m1, rfl⟩
            have HCJ := Lib.hid (fun W hW => (HSC.out W hW j).trans hcj)
            clear hcj
            have CU : Hid (∀ W, Calls Try.prog 6 #[.int .i64 n1, .int .i64 4] W fun e w' => e = .returned (.int .i64 (cutN n1 4 : Nat)) ∧ W = w') := Lib.hid (fun W => cutN_c n1 4 W (by omega) (by omega) hn1.1 hn1.2)
            have hcl : cutN n1 4 < 4 := cutN_lt (by omega)
            have hcw : IntKind.i64.wrap ((cutN n1 4 : Int) - 1) = (cutN n1 4 : Int) - 1 := IntWalk.i64_in _ ⟨by omega, by omega⟩
            generalize cutN n1 4 = k1 at *
            have m1' := HSN.out wr HB_wr.out 1
            simp only [List.getElem?_toArray, List.getElem?_cons_zero, List.getElem?_cons_succ] at m1'
            go_wp2_with fail
            refine (CU.out _).mono ?_
            rintro e wq ⟨rfl, rfl⟩
            generalize (k1 : Int) - 1 = kk at *
            go_upto_if 64 with (fail)
            go_cut [11] (fun v wx => ∃ f, v = .int .i64 f ∧ Hid (Below w3.heap.size w3 wx))
            case first =>
              by_cases hj0 : j = 0
              · subst hj0
                go_wp2_with fail
                go_meet
                case rel => exact ⟨_, rfl, HB_wr⟩
              · have hj0' : ((j : Int) == 0) = false := by rw [beq_eq_false_iff_ne]; omega
                go_wp2_with fail
                go_meet
                case rel => exact ⟨_, rfl, HB_wr⟩
            case rest =>
              obtain ⟨f, rfl, HB_wa⟩ := hcut
              generalize wc = wa at *
              have HSB : Hid (∀ W, Below w3.heap.size w3 W → (W.cell? ⟨L, q * 4, none⟩ = some (.int .u64 sq.seq) ∧ W.cell? ⟨L, q * 4 + 1, none⟩ = some (.bool sq.isOpen) ∧ W.cell? ⟨L, q * 4 + 2, none⟩ = some (.int .i64 sq.cell) ∧ W.cell? ⟨L, q * 4 + 3, none⟩ = some (.int .i64 sq.flag)) ∧ W.cell? ⟨C, j, none⟩ = some (.int .i64 cj)) := Lib.hid (fun W hW => ⟨HSL.out W hW, HCJ.out W hW⟩)
              clear m1' CU HB_wr HCJ HSC HSN HSQ HSL hcw hcl
              have CA := fun W0 => keepC (r := .returned (.tuple #[SV (offS sq cj f), .int .i64 (offE sq cj f)])) W0 (fun W => offer_c sq cj f W HSU.out)
              have CB := fun W0 => keepC (r := .returned (.tuple #[SV (offS sq cj f), .int .i64 (offE sq cj f)])) W0 (fun W => refOffer_c sq cj f W HSU.out)
              generalize offS sq cj f = R at *
              generalize offE sq cj f = E at *
              have CA1 := Lib.hid (CA wa)
              have CB1 := Lib.hid CB
              clear CA CB
              have HSp := Lib.hid (fun W (hW : Below wa.heap.size wa W) => HSB.out W (HB_wa.out.trans (hW.mono HB_wa.out.size)))
              go_wp2_with fail
              go_cut [12, 13] (fun p e wx => ∃ X, p = .pointer (some ⟨X, 0, none⟩) ∧ e = .int .i64 E ∧ Hid (SnAt wx X R) ∧ Hid (Below wa.heap.size wa wx))
              case first =>
                as_aux_lemma =>
                  go_region_held3 (fun W => (W.cell? ⟨L, q * 4, none⟩ = some (.int .u64 sq.seq) ∧ W.cell? ⟨L, q * 4 + 1, none⟩ = some (.bool sq.isOpen) ∧ W.cell? ⟨L, q * 4 + 2, none⟩ = some (.int .i64 sq.cell) ∧ W.cell? ⟨L, q * 4 + 3, none⟩ = some (.int .i64 sq.flag)) ∧ W.cell? ⟨C, j, none⟩ = some (.int .i64 cj)) ((refine HSp.out _ ?_; repeat (first | assumption | (with_reducible exact Below.refl _ _) | (with_reducible refine Below.drew ?_) | (with_reducible refine Below.alloc ?_ (by first | exact Nat.le_refl _ | (have := hbC.size; omega)) _) | (with_reducible refine below_put_ge ?_ (by first | exact Nat.le_refl _ | (have := hbC.size; omega)))))) (first | (go_at_call 7; (with_reducible refine (CA1.out _ (by repeat (first | assumption | (with_reducible exact Below.refl _ _) | (with_reducible refine Below.drew ?_) | (with_reducible refine Below.alloc ?_ (Nat.le_refl _) _)))).mono ?_); rintro e wC ⟨rfl, hbC, hs, hf⟩; refine cut_first (a := SnAt wC wa.heap.size zeroSn) ?_ ?_; (focus (refine hs wa.heap.size zeroSn ?_; (repeat (first | assumption | (with_reducible exact SnAt.newz _) | (with_reducible exact SnAt.newd _) | (with_reducible refine SnAt.drew ?_))); done)); intro hZC; have hXl := block_lt hZC; obtain ⟨z0, z1, z2, z3⟩ := SnAt.cell hZC; obtain ⟨y0, y1, y2, y3⟩ := SnAt.frozen hZC) | (go_at_call 7; (with_reducible refine (CA1.out _ (by repeat (first | assumption | (with_reducible exact Below.refl _ _) | (with_reducible refine Below.drew ?_) | (with_reducible refine Below.alloc ?_ (Nat.le_refl _) _)))).mono ?_); rintro e wC ⟨rfl, hbC, hs, hf⟩))
                  all_goals
                    go_wp2_with fail
                    go_meet
                    case rel =>
                      refine ⟨_, rfl, rfl, ?_, ?_⟩
                      · first
                        | exact Lib.hid (hZC.put4 R)
                        | exact Lib.hid (SnAt.new wC R)
                      · refine Lib.hid ?_
                        repeat (first | assumption | (with_reducible refine Below.alloc ?_ (by have := hbC.size; omega) _) | (with_reducible refine below_put_ge ?_ (Nat.le_refl _)))
              case rest =>
                obtain ⟨Xwb, rfl, rfl, HXwb, HLwb⟩ := hcut
                have HB_wb := Lib.hid (HB_wa.out.trans (HLwb.out.mono HB_wa.out.size))
                have hww_wb : wc = wc := rfl
                generalize wc = wb at *
                clear HSp hww_wb
                have CB2 := Lib.hid (CB1.out wb)
                clear CB1 CA1
                have HSp := Lib.hid (fun W (hW : Below wb.heap.size wb W) => HSB.out W (HB_wb.out.trans (hW.mono HB_wb.out.size)))
                go_wp2_with fail
                go_cut [14, 15] (fun p e wx => ∃ X, p = .pointer (some ⟨X, 0, none⟩) ∧ e = .int .i64 E ∧ Hid (SnAt wx X R) ∧ Hid (Below wb.heap.size wb wx))
                case first =>
                  as_aux_lemma =>
                    go_region_held3 (fun W => (W.cell? ⟨L, q * 4, none⟩ = some (.int .u64 sq.seq) ∧ W.cell? ⟨L, q * 4 + 1, none⟩ = some (.bool sq.isOpen) ∧ W.cell? ⟨L, q * 4 + 2, none⟩ = some (.int .i64 sq.cell) ∧ W.cell? ⟨L, q * 4 + 3, none⟩ = some (.int .i64 sq.flag)) ∧ W.cell? ⟨C, j, none⟩ = some (.int .i64 cj)) ((refine HSp.out _ ?_; repeat (first | assumption | (with_reducible exact Below.refl _ _) | (with_reducible refine Below.drew ?_) | (with_reducible refine Below.alloc ?_ (by first | exact Nat.le_refl _ | (have := hbC.size; omega)) _) | (with_reducible refine below_put_ge ?_ (by first | exact Nat.le_refl _ | (have := hbC.size; omega)))))) (first | (go_at_call 8; (with_reducible refine (CB2.out _ (by repeat (first | assumption | (with_reducible exact Below.refl _ _) | (with_reducible refine Below.drew ?_) | (with_reducible refine Below.alloc ?_ (Nat.le_refl _) _)))).mono ?_); rintro e wC ⟨rfl, hbC, hs, hf⟩; refine cut_first (a := SnAt wC wb.heap.size zeroSn) ?_ ?_; (focus (refine hs wb.heap.size zeroSn ?_; (repeat (first | assumption | (with_reducible exact SnAt.newz _) | (with_reducible exact SnAt.newd _) | (with_reducible refine SnAt.drew ?_))); done)); intro hZC; have hXl := block_lt hZC; obtain ⟨z0, z1, z2, z3⟩ := SnAt.cell hZC; obtain ⟨y0, y1, y2, y3⟩ := SnAt.frozen hZC) | (go_at_call 8; (with_reducible refine (CB2.out _ (by repeat (first | assumption | (with_reducible exact Below.refl _ _) | (with_reducible refine Below.drew ?_) | (with_reducible refine Below.alloc ?_ (Nat.le_refl _) _)))).mono ?_); rintro e wC ⟨rfl, hbC, hs, hf⟩))
                    all_goals
                      go_wp2_with fail
                      go_meet
                      case rel =>
                        refine ⟨_, rfl, rfl, ?_, ?_⟩
                        · first
                          | exact Lib.hid (hZC.put4 R)
                          | exact Lib.hid (SnAt.new wC R)
                        · refine Lib.hid ?_
                          repeat (first | assumption | (with_reducible refine Below.alloc ?_ (by have := hbC.size; omega) _) | (with_reducible refine below_put_ge ?_ (Nat.le_refl _)))
                case rest =>
                  obtain ⟨Xwd, rfl, rfl, HXwd, HLwd⟩ := hcut
                  have HB_wd := Lib.hid (HB_wb.out.trans (HLwd.out.mono HB_wb.out.size))
                  have hww_wd : wc = wc := rfl
                  generalize wc = wd at *
                  clear HSp hww_wd
                  have HXa := Lib.hid (HXwb.out.keep HLwd.out)
                  obtain ⟨x0, x1, x2, x3⟩ := HXa.out.cell
                  obtain ⟨y0, y1, y2, y3⟩ := HXwd.out.cell
                  have hgd := guard_sn
                  have hef := fun W => eq_sn R R W
                  simp only [decide_true] at hef
                  have hee : (E != E) = false := by simp
                  clear HXwb HXa HLwd HLwb HSB CB2
                  go_wp2_with fail
                  exact ⟨⟨j + 1, by rw [show ((j + 1 : Nat) : Int) = (j : Int) + 1 by omega], by omega, HB_wd⟩, by simp [intOf]; omega⟩
          · skip
            obtain rfl : j = 2 := by omega
            have HS1 : Hid (∀ W, Below w3.heap.size w3 W → (W.cell? ⟨L, q * 4, none⟩ = some (.int .u64 sq.seq) ∧ W.cell? ⟨L, q * 4 + 1, none⟩ = some (.bool sq.isOpen) ∧ W.cell? ⟨L, q * 4 + 2, none⟩ = some (.int .i64 sq.cell) ∧ W.cell? ⟨L, q * 4 + 3, none⟩ = some (.int .i64 sq.flag)) ∧ W.cell? ⟨P + 1, 2, none⟩ = some (.int .i64 n2)) := Lib.hid (fun W hW => ⟨HSL.out W hW, HSN.out W hW 2⟩)
            have HS2 : Hid (∀ W, Below w3.heap.size w3 W → (W.cell? ⟨L, q * 4, none⟩ = some (.int .u64 sq.seq) ∧ W.cell? ⟨L, q * 4 + 1, none⟩ = some (.bool sq.isOpen) ∧ W.cell? ⟨L, q * 4 + 2, none⟩ = some (.int .i64 sq.cell) ∧ W.cell? ⟨L, q * 4 + 3, none⟩ = some (.int .i64 sq.flag)) ∧ W.cell? ⟨P + 1 + 1, 1, none⟩ = some (.int .u64 q1)) := Lib.hid (fun W hW => ⟨HSL.out W hW, HSQ.out W hW 1⟩)
            have HS3 : Hid (∀ W, Below w3.heap.size w3 W → W.cell? ⟨L, q * 4, none⟩ = some (.int .u64 sq.seq) ∧ W.cell? ⟨L, q * 4 + 1, none⟩ = some (.bool sq.isOpen) ∧ W.cell? ⟨L, q * 4 + 2, none⟩ = some (.int .i64 sq.cell) ∧ W.cell? ⟨L, q * 4 + 3, none⟩ = some (.int .i64 sq.flag)) := Lib.hid (fun W hW => HSL.out W hW)
            have CO1 := Lib.hid (fun W0 => keepC (r := .returned (.tuple #[FV (outF sq n2), .bool sq.isOpen])) W0 (fun W => out_c sq n2 W))
            have CO2 := Lib.hid (fun W0 => keepC (r := .returned (.tuple #[FV (outF sq n2), .bool sq.isOpen])) W0 (fun W => refOut_c sq n2 W))
            have CC1 := Lib.hid (fun W0 => keepC (r := .returned (.tuple #[SV (confS sq q1), .bool (confB sq q1)])) W0 (fun W => confirm_c sq q1 W))
            have CC2 := Lib.hid (fun W0 => keepC (r := .returned (.tuple #[SV (confS sq q1), .bool (confB sq q1)])) W0 (fun W => refConfirm_c sq q1 W))
            have CD1 := Lib.hid (fun W0 => keepC (r := .returned (.tuple #[SV (confS sq sq.seq), .bool (confB sq sq.seq)])) W0 (fun W => confirm_c sq sq.seq W))
            have CD2 := Lib.hid (fun W0 => keepC (r := .returned (.tuple #[SV (confS sq sq.seq), .bool (confB sq sq.seq)])) W0 (fun W => refConfirm_c sq sq.seq W))
            generalize outF sq n2 = F at *
            generalize confS sq q1 = R1 at *
            generalize confB sq q1 = b1 at *
            generalize confS sq sq.seq = R2 at *
            generalize confB sq sq.seq = b2 at *
            have CO1v := Lib.hid (CO1.out wr)
            have HSp := Lib.hid (fun W (hW : Below wr.heap.size wr W) => HS1.out W (HB_wr.out.trans (hW.mono HB_wr.out.size)))
            go_wp2_with fail
            go_cut [16, 17] (fun p e wx => ∃ X, p = .pointer (some ⟨X, 0, none⟩) ∧ e = .bool sq.isOpen ∧ Hid (FrAt wx X F) ∧ Hid (Below wr.heap.size wr wx))
            case first =>
              as_aux_lemma =>
                go_region_held3 (fun W => (W.cell? ⟨L, q * 4, none⟩ = some (.int .u64 sq.seq) ∧ W.cell? ⟨L, q * 4 + 1, none⟩ = some (.bool sq.isOpen) ∧ W.cell? ⟨L, q * 4 + 2, none⟩ = some (.int .i64 sq.cell) ∧ W.cell? ⟨L, q * 4 + 3, none⟩ = some (.int .i64 sq.flag)) ∧ W.cell? ⟨P + 1, 2, none⟩ = some (.int .i64 n2)) ((refine HSp.out _ ?_; repeat (first | assumption | (with_reducible exact Below.refl _ _) | (with_reducible refine Below.drew ?_) | (with_reducible refine Below.alloc ?_ (by first | exact Nat.le_refl _ | (have := hbC.size; omega)) _) | (with_reducible refine below_put_ge ?_ (by first | exact Nat.le_refl _ | (have := hbC.size; omega)))))) (first | (go_at_call 9; (with_reducible refine (CO1v.out _ (by repeat (first | assumption | (with_reducible exact Below.refl _ _) | (with_reducible refine Below.drew ?_) | (with_reducible refine Below.alloc ?_ (Nat.le_refl _) _)))).mono ?_); rintro e wC ⟨rfl, hbC, hs, hf⟩; refine cut_first (a := FrAt wC wr.heap.size zeroF) ?_ ?_; (focus (refine hf wr.heap.size zeroF ?_; (repeat (first | assumption | (with_reducible exact FrAt.newz _) | (with_reducible exact FrAt.newd _) | (with_reducible refine FrAt.drew ?_))); done)); intro hZC; have hXl := block_lt hZC; obtain ⟨z0, z1, z2, z3, z4⟩ := FrAt.cell hZC; obtain ⟨y0, y1, y2, y3, y4⟩ := FrAt.frozen hZC) | (go_at_call 9; (with_reducible refine (CO1v.out _ (by repeat (first | assumption | (with_reducible exact Below.refl _ _) | (with_reducible refine Below.drew ?_) | (with_reducible refine Below.alloc ?_ (Nat.le_refl _) _)))).mono ?_); rintro e wC ⟨rfl, hbC, hs, hf⟩))
                all_goals
                  go_wp2_with fail
                  go_meet
                  case rel =>
                    refine ⟨_, rfl, rfl, ?_, ?_⟩
                    · first
                      | exact Lib.hid (hZC.put5 F)
                      | exact Lib.hid (FrAt.new wC F)
                    · refine Lib.hid ?_
                      repeat (first | assumption | (with_reducible refine Below.alloc ?_ (by have := hbC.size; omega) _) | (with_reducible refine below_put_ge ?_ (Nat.le_refl _)))
            case rest =>
              obtain ⟨Xva, rfl, rfl, HXva, HLva⟩ := hcut
              have HB_va := Lib.hid (HB_wr.out.trans (HLva.out.mono HB_wr.out.size))
              have hww_va : wc = wc := rfl
              generalize wc = va at *
              clear HSp hww_va
              have CO2v := Lib.hid (CO2.out va)
              have HSp := Lib.hid (fun W (hW : Below va.heap.size va W) => HS1.out W (HB_va.out.trans (hW.mono HB_va.out.size)))
              go_wp2_with fail
              go_cut [18, 19] (fun p e wx => ∃ X, p = .pointer (some ⟨X, 0, none⟩) ∧ e = .bool sq.isOpen ∧ Hid (FrAt wx X F) ∧ Hid (Below va.heap.size va wx))
              case first =>
                as_aux_lemma =>
                  go_region_held3 (fun W => (W.cell? ⟨L, q * 4, none⟩ = some (.int .u64 sq.seq) ∧ W.cell? ⟨L, q * 4 + 1, none⟩ = some (.bool sq.isOpen) ∧ W.cell? ⟨L, q * 4 + 2, none⟩ = some (.int .i64 sq.cell) ∧ W.cell? ⟨L, q * 4 + 3, none⟩ = some (.int .i64 sq.flag)) ∧ W.cell? ⟨P + 1, 2, none⟩ = some (.int .i64 n2)) ((refine HSp.out _ ?_; repeat (first | assumption | (with_reducible exact Below.refl _ _) | (with_reducible refine Below.drew ?_) | (with_reducible refine Below.alloc ?_ (by first | exact Nat.le_refl _ | (have := hbC.size; omega)) _) | (with_reducible refine below_put_ge ?_ (by first | exact Nat.le_refl _ | (have := hbC.size; omega)))))) (first | (go_at_call 10; (with_reducible refine (CO2v.out _ (by repeat (first | assumption | (with_reducible exact Below.refl _ _) | (with_reducible refine Below.drew ?_) | (with_reducible refine Below.alloc ?_ (Nat.le_refl _) _)))).mono ?_); rintro e wC ⟨rfl, hbC, hs, hf⟩; refine cut_first (a := FrAt wC va.heap.size zeroF) ?_ ?_; (focus (refine hf va.heap.size zeroF ?_; (repeat (first | assumption | (with_reducible exact FrAt.newz _) | (with_reducible exact FrAt.newd _) | (with_reducible refine FrAt.drew ?_))); done)); intro hZC; have hXl := block_lt hZC; obtain ⟨z0, z1, z2, z3, z4⟩ := FrAt.cell hZC; obtain ⟨y0, y1, y2, y3, y4⟩ := FrAt.frozen hZC) | (go_at_call 10; (with_reducible refine (CO2v.out _ (by repeat (first | assumption | (with_reducible exact Below.refl _ _) | (with_reducible refine Below.drew ?_) | (with_reducible refine Below.alloc ?_ (Nat.le_refl _) _)))).mono ?_); rintro e wC ⟨rfl, hbC, hs, hf⟩))
                  all_goals
                    go_wp2_with fail
                    go_meet
                    case rel =>
                      refine ⟨_, rfl, rfl, ?_, ?_⟩
                      · first
                        | exact Lib.hid (hZC.put5 F)
                        | exact Lib.hid (FrAt.new wC F)
                      · refine Lib.hid ?_
                        repeat (first | assumption | (with_reducible refine Below.alloc ?_ (by have := hbC.size; omega) _) | (with_reducible refine below_put_ge ?_ (Nat.le_refl _)))
              case rest =>
                obtain ⟨Xvb, rfl, rfl, HXvb, HLvb⟩ := hcut
                have HB_vb := Lib.hid (HB_va.out.trans (HLvb.out.mono HB_va.out.size))
                have hww_vb : wc = wc := rfl
                generalize wc = vb at *
                clear HSp hww_vb
                have HXva := Lib.hid (HXva.out.keep HLvb.out)
                have CC1v := Lib.hid (CC1.out vb)
                have HSp := Lib.hid (fun W (hW : Below vb.heap.size vb W) => HS2.out W (HB_vb.out.trans (hW.mono HB_vb.out.size)))
                go_wp2_with fail
                go_cut [20, 21] (fun p e wx => ∃ X, p = .pointer (some ⟨X, 0, none⟩) ∧ e = .bool b1 ∧ Hid (SnAt wx X R1) ∧ Hid (Below vb.heap.size vb wx))
                case first =>
                  as_aux_lemma =>
                    go_region_held3 (fun W => (W.cell? ⟨L, q * 4, none⟩ = some (.int .u64 sq.seq) ∧ W.cell? ⟨L, q * 4 + 1, none⟩ = some (.bool sq.isOpen) ∧ W.cell? ⟨L, q * 4 + 2, none⟩ = some (.int .i64 sq.cell) ∧ W.cell? ⟨L, q * 4 + 3, none⟩ = some (.int .i64 sq.flag)) ∧ W.cell? ⟨P + 1 + 1, 1, none⟩ = some (.int .u64 q1)) ((refine HSp.out _ ?_; repeat (first | assumption | (with_reducible exact Below.refl _ _) | (with_reducible refine Below.drew ?_) | (with_reducible refine Below.alloc ?_ (by first | exact Nat.le_refl _ | (have := hbC.size; omega)) _) | (with_reducible refine below_put_ge ?_ (by first | exact Nat.le_refl _ | (have := hbC.size; omega)))))) (first | (go_at_call 11; (with_reducible refine (CC1v.out _ (by repeat (first | assumption | (with_reducible exact Below.refl _ _) | (with_reducible refine Below.drew ?_) | (with_reducible refine Below.alloc ?_ (Nat.le_refl _) _)))).mono ?_); rintro e wC ⟨rfl, hbC, hs, hf⟩; refine cut_first (a := SnAt wC vb.heap.size zeroSn) ?_ ?_; (focus (refine hs vb.heap.size zeroSn ?_; (repeat (first | assumption | (with_reducible exact SnAt.newz _) | (with_reducible exact SnAt.newd _) | (with_reducible refine SnAt.drew ?_))); done)); intro hZC; have hXl := block_lt hZC; obtain ⟨z0, z1, z2, z3⟩ := SnAt.cell hZC; obtain ⟨y0, y1, y2, y3⟩ := SnAt.frozen hZC) | (go_at_call 11; (with_reducible refine (CC1v.out _ (by repeat (first | assumption | (with_reducible exact Below.refl _ _) | (with_reducible refine Below.drew ?_) | (with_reducible refine Below.alloc ?_ (Nat.le_refl _) _)))).mono ?_); rintro e wC ⟨rfl, hbC, hs, hf⟩))
                    all_goals
                      go_wp2_with fail
                      go_meet
                      case rel =>
                        refine ⟨_, rfl, rfl, ?_, ?_⟩
                        · first
                          | exact Lib.hid (hZC.put4 R1)
                          | exact Lib.hid (SnAt.new wC R1)
                        · refine Lib.hid ?_
                          repeat (first | assumption | (with_reducible refine Below.alloc ?_ (by have := hbC.size; omega) _) | (with_reducible refine below_put_ge ?_ (Nat.le_refl _)))
                case rest =>
                  obtain ⟨Xvc, rfl, rfl, HXvc, HLvc⟩ := hcut
                  have HB_vc := Lib.hid (HB_vb.out.trans (HLvc.out.mono HB_vb.out.size))
                  have hww_vc : wc = wc := rfl
                  generalize wc = vc at *
                  clear HSp hww_vc
                  have HXva := Lib.hid (HXva.out.keep HLvc.out)
                  have HXvb := Lib.hid (HXvb.out.keep HLvc.out)
                  have CC2v := Lib.hid (CC2.out vc)
                  have HSp := Lib.hid (fun W (hW : Below vc.heap.size vc W) => HS2.out W (HB_vc.out.trans (hW.mono HB_vc.out.size)))
                  go_wp2_with fail
                  go_cut [22, 23] (fun p e wx => ∃ X, p = .pointer (some ⟨X, 0, none⟩) ∧ e = .bool b1 ∧ Hid (SnAt wx X R1) ∧ Hid (Below vc.heap.size vc wx))
                  case first =>
                    as_aux_lemma =>
                      go_region_held3 (fun W => (W.cell? ⟨L, q * 4, none⟩ = some (.int .u64 sq.seq) ∧ W.cell? ⟨L, q * 4 + 1, none⟩ = some (.bool sq.isOpen) ∧ W.cell? ⟨L, q * 4 + 2, none⟩ = some (.int .i64 sq.cell) ∧ W.cell? ⟨L, q * 4 + 3, none⟩ = some (.int .i64 sq.flag)) ∧ W.cell? ⟨P + 1 + 1, 1, none⟩ = some (.int .u64 q1)) ((refine HSp.out _ ?_; repeat (first | assumption | (with_reducible exact Below.refl _ _) | (with_reducible refine Below.drew ?_) | (with_reducible refine Below.alloc ?_ (by first | exact Nat.le_refl _ | (have := hbC.size; omega)) _) | (with_reducible refine below_put_ge ?_ (by first | exact Nat.le_refl _ | (have := hbC.size; omega)))))) (first | (go_at_call 12; (with_reducible refine (CC2v.out _ (by repeat (first | assumption | (with_reducible exact Below.refl _ _) | (with_reducible refine Below.drew ?_) | (with_reducible refine Below.alloc ?_ (Nat.le_refl _) _)))).mono ?_); rintro e wC ⟨rfl, hbC, hs, hf⟩; refine cut_first (a := SnAt wC vc.heap.size zeroSn) ?_ ?_; (focus (refine hs vc.heap.size zeroSn ?_; (repeat (first | assumption | (with_reducible exact SnAt.newz _) | (with_reducible exact SnAt.newd _) | (with_reducible refine SnAt.drew ?_))); done)); intro hZC; have hXl := block_lt hZC; obtain ⟨z0, z1, z2, z3⟩ := SnAt.cell hZC; obtain ⟨y0, y1, y2, y3⟩ := SnAt.frozen hZC) | (go_at_call 12; (with_reducible refine (CC2v.out _ (by repeat (first | assumption | (with_reducible exact Below.refl _ _) | (with_reducible refine Below.drew ?_) | (with_reducible refine Below.alloc ?_ (Nat.le_refl _) _)))).mono ?_); rintro e wC ⟨rfl, hbC, hs, hf⟩))
                      all_goals
                        go_wp2_with fail
                        go_meet
                        case rel =>
                          refine ⟨_, rfl, rfl, ?_, ?_⟩
                          · first
                            | exact Lib.hid (hZC.put4 R1)
                            | exact Lib.hid (SnAt.new wC R1)
                          · refine Lib.hid ?_
                            repeat (first | assumption | (with_reducible refine Below.alloc ?_ (by have := hbC.size; omega) _) | (with_reducible refine below_put_ge ?_ (Nat.le_refl _)))
                  case rest =>
                    obtain ⟨Xvd, rfl, rfl, HXvd, HLvd⟩ := hcut
                    have HB_vd := Lib.hid (HB_vc.out.trans (HLvd.out.mono HB_vc.out.size))
                    have hww_vd : wc = wc := rfl
                    generalize wc = vd at *
                    clear HSp hww_vd
                    have HXva := Lib.hid (HXva.out.keep HLvd.out)
                    have HXvb := Lib.hid (HXvb.out.keep HLvd.out)
                    have HXvc := Lib.hid (HXvc.out.keep HLvd.out)
                    have CD1v := Lib.hid (CD1.out vd)
                    have HSp := Lib.hid (fun W (hW : Below vd.heap.size vd W) => HS3.out W (HB_vd.out.trans (hW.mono HB_vd.out.size)))
                    go_wp2_with fail
                    go_cut [24, 25] (fun p e wx => ∃ X, p = .pointer (some ⟨X, 0, none⟩) ∧ e = .bool b2 ∧ Hid (SnAt wx X R2) ∧ Hid (Below vd.heap.size vd wx))
                    case first =>
                      as_aux_lemma =>
                        go_region_held3 (fun W => W.cell? ⟨L, q * 4, none⟩ = some (.int .u64 sq.seq) ∧ W.cell? ⟨L, q * 4 + 1, none⟩ = some (.bool sq.isOpen) ∧ W.cell? ⟨L, q * 4 + 2, none⟩ = some (.int .i64 sq.cell) ∧ W.cell? ⟨L, q * 4 + 3, none⟩ = some (.int .i64 sq.flag)) ((refine HSp.out _ ?_; repeat (first | assumption | (with_reducible exact Below.refl _ _) | (with_reducible refine Below.drew ?_) | (with_reducible refine Below.alloc ?_ (by first | exact Nat.le_refl _ | (have := hbC.size; omega)) _) | (with_reducible refine below_put_ge ?_ (by first | exact Nat.le_refl _ | (have := hbC.size; omega)))))) (first | (go_at_call 11; (with_reducible refine (CD1v.out _ (by repeat (first | assumption | (with_reducible exact Below.refl _ _) | (with_reducible refine Below.drew ?_) | (with_reducible refine Below.alloc ?_ (Nat.le_refl _) _)))).mono ?_); rintro e wC ⟨rfl, hbC, hs, hf⟩; refine cut_first (a := SnAt wC vd.heap.size zeroSn) ?_ ?_; (focus (refine hs vd.heap.size zeroSn ?_; (repeat (first | assumption | (with_reducible exact SnAt.newz _) | (with_reducible exact SnAt.newd _) | (with_reducible refine SnAt.drew ?_))); done)); intro hZC; have hXl := block_lt hZC; obtain ⟨z0, z1, z2, z3⟩ := SnAt.cell hZC; obtain ⟨y0, y1, y2, y3⟩ := SnAt.frozen hZC) | (go_at_call 11; (with_reducible refine (CD1v.out _ (by repeat (first | assumption | (with_reducible exact Below.refl _ _) | (with_reducible refine Below.drew ?_) | (with_reducible refine Below.alloc ?_ (Nat.le_refl _) _)))).mono ?_); rintro e wC ⟨rfl, hbC, hs, hf⟩))
                        all_goals
                          go_wp2_with fail
                          go_meet
                          case rel =>
                            refine ⟨_, rfl, rfl, ?_, ?_⟩
                            · first
                              | exact Lib.hid (hZC.put4 R2)
                              | exact Lib.hid (SnAt.new wC R2)
                            · refine Lib.hid ?_
                              repeat (first | assumption | (with_reducible refine Below.alloc ?_ (by have := hbC.size; omega) _) | (with_reducible refine below_put_ge ?_ (Nat.le_refl _)))
                    case rest =>
                      obtain ⟨Xve, rfl, rfl, HXve, HLve⟩ := hcut
                      have HB_ve := Lib.hid (HB_vd.out.trans (HLve.out.mono HB_vd.out.size))
                      have hww_ve : wc = wc := rfl
                      generalize wc = ve at *
                      clear HSp hww_ve
                      have HXva := Lib.hid (HXva.out.keep HLve.out)
                      have HXvb := Lib.hid (HXvb.out.keep HLve.out)
                      have HXvc := Lib.hid (HXvc.out.keep HLve.out)
                      have HXvd := Lib.hid (HXvd.out.keep HLve.out)
                      have CD2v := Lib.hid (CD2.out ve)
                      have HSp := Lib.hid (fun W (hW : Below ve.heap.size ve W) => HS3.out W (HB_ve.out.trans (hW.mono HB_ve.out.size)))
                      go_wp2_with fail
                      go_cut [26, 27] (fun p e wx => ∃ X, p = .pointer (some ⟨X, 0, none⟩) ∧ e = .bool b2 ∧ Hid (SnAt wx X R2) ∧ Hid (Below ve.heap.size ve wx))
                      case first =>
                        as_aux_lemma =>
                          go_region_held3 (fun W => W.cell? ⟨L, q * 4, none⟩ = some (.int .u64 sq.seq) ∧ W.cell? ⟨L, q * 4 + 1, none⟩ = some (.bool sq.isOpen) ∧ W.cell? ⟨L, q * 4 + 2, none⟩ = some (.int .i64 sq.cell) ∧ W.cell? ⟨L, q * 4 + 3, none⟩ = some (.int .i64 sq.flag)) ((refine HSp.out _ ?_; repeat (first | assumption | (with_reducible exact Below.refl _ _) | (with_reducible refine Below.drew ?_) | (with_reducible refine Below.alloc ?_ (by first | exact Nat.le_refl _ | (have := hbC.size; omega)) _) | (with_reducible refine below_put_ge ?_ (by first | exact Nat.le_refl _ | (have := hbC.size; omega)))))) (first | (go_at_call 12; (with_reducible refine (CD2v.out _ (by repeat (first | assumption | (with_reducible exact Below.refl _ _) | (with_reducible refine Below.drew ?_) | (with_reducible refine Below.alloc ?_ (Nat.le_refl _) _)))).mono ?_); rintro e wC ⟨rfl, hbC, hs, hf⟩; refine cut_first (a := SnAt wC ve.heap.size zeroSn) ?_ ?_; (focus (refine hs ve.heap.size zeroSn ?_; (repeat (first | assumption | (with_reducible exact SnAt.newz _) | (with_reducible exact SnAt.newd _) | (with_reducible refine SnAt.drew ?_))); done)); intro hZC; have hXl := block_lt hZC; obtain ⟨z0, z1, z2, z3⟩ := SnAt.cell hZC; obtain ⟨y0, y1, y2, y3⟩ := SnAt.frozen hZC) | (go_at_call 12; (with_reducible refine (CD2v.out _ (by repeat (first | assumption | (with_reducible exact Below.refl _ _) | (with_reducible refine Below.drew ?_) | (with_reducible refine Below.alloc ?_ (Nat.le_refl _) _)))).mono ?_); rintro e wC ⟨rfl, hbC, hs, hf⟩))
                          all_goals
                            go_wp2_with fail
                            go_meet
                            case rel =>
                              refine ⟨_, rfl, rfl, ?_, ?_⟩
                              · first
                                | exact Lib.hid (hZC.put4 R2)
                                | exact Lib.hid (SnAt.new wC R2)
                              · refine Lib.hid ?_
                                repeat (first | assumption | (with_reducible refine Below.alloc ?_ (by have := hbC.size; omega) _) | (with_reducible refine below_put_ge ?_ (Nat.le_refl _)))
                      case rest =>
                        obtain ⟨Xvf, rfl, rfl, HXvf, HLvf⟩ := hcut
                        have HB_vf := Lib.hid (HB_ve.out.trans (HLvf.out.mono HB_ve.out.size))
                        have hww_vf : wc = wc := rfl
                        generalize wc = vf at *
                        clear HSp hww_vf
                        have HXva := Lib.hid (HXva.out.keep HLvf.out)
                        have HXvb := Lib.hid (HXvb.out.keep HLvf.out)
                        have HXvc := Lib.hid (HXvc.out.keep HLvf.out)
                        have HXvd := Lib.hid (HXvd.out.keep HLvf.out)
                        have HXve := Lib.hid (HXve.out.keep HLvf.out)
                        obtain ⟨x0, x1, x2, x3, x4⟩ := HXva.out.cell
                        obtain ⟨y0, y1, y2, y3, y4⟩ := HXvb.out.cell
                        obtain ⟨z0, z1, z2, z3⟩ := HXvc.out.cell
                        obtain ⟨u0, u1, u2, u3⟩ := HXvd.out.cell
                        obtain ⟨v0, v1, v2, v3⟩ := HXve.out.cell
                        obtain ⟨s0, s1, s2, s3⟩ := HXvf.out.cell
                        have m0 := HSQ.out vf HB_vf.out 0
                        have m1 := HSQ.out vf HB_vf.out 1
                        simp only [List.getElem?_toArray, List.getElem?_cons_zero, List.getElem?_cons_succ] at m0 m1
                        have hgd := guard_sn
                        have hgf := guard_frame
                        have hef := fun W => eq_frame F F W
                        have he1 := fun W => eq_sn R1 R1 W
                        have he2 := fun W => eq_sn R2 R2 W
                        simp only [decide_true] at hef he1 he2
                        have hb0 : (sq.isOpen != sq.isOpen) = false := by simp
                        have hb1 : (b1 != b1) = false := by simp
                        have hb2 : (b2 != b2) = false := by simp
                        have CF1 := Lib.hid (fun W => fresh_c q0 q1 W)
                        have CF2 := Lib.hid (fun W => refFresh_c q0 q1 W)
                        generalize freshB q0 q1 = bf at *
                        have hbf : (bf != bf) = false := by simp
                        clear HXva HXvb HXvc HXvd HXve HXvf HLva HLvb HLvc HLvd HLve HLvf CO1 CO2 CC1 CC2 CD1 CD2 HSN HSQ HSL HSC
                        go_wp2_with fail
                        go_quiet (first | (go_at_call 13; exact Calls.quiet_of_same ((CF1.out _).mono fun _ _ hh => ⟨hh.1, hh.2.symm⟩)) | (go_at_call 14; exact Calls.quiet_of_same ((CF2.out _).mono fun _ _ hh => ⟨hh.1, hh.2.symm⟩)))
                        go_wp2_with fail
                        exact ⟨⟨q + 1, by rw [show ((q + 1 : Nat) : Int) = (q : Int) + 1 by omega], by omega, Lib.hid (below_drewN HB_vf.out _)⟩, by simp [intOf]; omega⟩
      · have HBz := Lib.hid (HBc.out.trans (HB_wr.out.mono (by have h1 := HBc.out.size; have h2 := HPe.out; omega)))
        obtain rfl : q = 3 := by omega
        clear HB_wr HLc HQc HNc HC HBc
        go_wp2
        go_ret
        exact ⟨rfl, by rw [HPe.out]; exact HBz.out⟩
end Go.Proofs.Ytpiofjhcagdklaa
