/- PlanePoints of layer 8. -/
import Derived.Test.YtifnmfljlgaeoaaPlSame
import Derived.Test.YtifnmfljlgaeoaaPdTurn
namespace Go.Proofs.Ytifnmfljlgaeoaa
open Go Go.RowKit Fl

theorem same_from (hA : DevAt) (hSt : DevStep) (hT : DevTurn) (hS : DevSquare) (hRo : DevRotate) (hMi : DevMirror) (a b c : BlockD) (q : Int) (hq : -9223372036854775808 ≤ q ∧ q ≤ 9223372036854775807) (hnm : a.name.length ≤ 140737488355328) (w1 W : World) (hW : Below w1.heap.size w1 W) :
    Calls Try.prog 11 #[BV a, BV b, BV c, .int .i64 q] W fun e w' => e = .returned (.bool true) ∧ Below w1.heap.size w1 w' :=
  (same_c hA hSt hT hS hRo hMi a b c q hq hnm W).mono (fun _ _ k => ⟨k.1, hW.trans (k.2.mono hW.size)⟩)
set_option maxRecDepth 100000 in
set_option maxHeartbeats 8000000 in
theorem planePoints_c (hA : DevAt) (hSt : DevStep) (hT : DevTurn) (hR : DevArea) (hS : DevSquare) (hRo : DevRotate) (hMi : DevMirror) (a b c : BlockD) (q : Int) (C : Option Addr) (k : Nat) (zs : List Int) (w : World) (hz : IntsAt w w.heap.size C zs) (hzl : zs.length ≤ maxLen) (hq : -9223372036854775808 ≤ q ∧ q ≤ 9223372036854775807) (hnm : a.name.length ≤ 140737488355328) :
    Calls Try.prog 3 #[BV a, BV b, BV c, .int .i64 q, .slice C zs.length k] w fun e w' => e = .returned (.bool true) ∧ Below w.heap.size w w' := by
  obtain ⟨ha, hb, hc, hw⟩ := three_new w a b c
  have HA := Lib.hid ha
  have HB := Lib.hid hb
  have HC := Lib.hid hc
  have HW := Lib.hid hw
  have CK := Lib.hid (known8_c hA hT hR)
  have CS := Lib.hid (same_from hA hSt hT hS hRo hMi)
  have HZ := Lib.hid hz
  have HL := Lib.hid hzl
  have HQ := Lib.hid hq
  have HNm := Lib.hid hnm
  clear hA hT hR hz hzl ha hb hc hw hSt hS hRo hMi hq hnm
  go_enter Try.func3, Try.ntmps3
  go_wp2_with fail
  refine (CK.out _).mono ?_
  rintro e w1 ⟨rfl, hb1⟩
  have HB1 := Lib.hid (HW.out.trans (hb1.mono HW.out.size))
  have HA1 := Lib.hid (HA.out.keep hb1)
  have HBb1 := Lib.hid (HB.out.keep hb1)
  have HC1 := Lib.hid (HC.out.keep hb1)
  have CB := Lib.hid (blocks_c C k 3 zs w1 ((HZ.out.keep (Nat.le_refl _) HB1.out).more HB1.out.size) HL.out (by decide))
  clear hb1 CK HZ HL HA HB HC HW
  go_wp2_with fail
  refine CB.out.mono ?_
  rintro e w2 ⟨A, cc, l, rfl, hml, hhl, hb2⟩
  obtain ⟨m0, m1, m2, rfl⟩ : ∃ a b c, l = [a, b, c] := by
    match l, hml.1 with
    | [a, b, c], _ => exact ⟨a, b, c, rfl⟩
  have hn0 := (hml.2 m0 (by simp)).2
  have HB2 := Lib.hid (HB1.out.trans (hb2.mono HB1.out.size))
  have C1 := Lib.hid (CS.out a b c q HQ.out HNm.out w2)
  have C2 := Lib.hid (CS.out m0 m1 m2 q HQ.out (by rw [hn0]; simp) w2)
  obtain ⟨bb, o, rfl, hbl, h0⟩ := hhl.block (k := 0) (by simp)
  obtain ⟨b', o', hE, _, h1⟩ := hhl.block (k := 1) (by simp)
  injection hE with hE
  injection hE with hE1 hE2
  subst hE1 hE2
  obtain ⟨b', o', hE, _, h2⟩ := hhl.block (k := 2) (by simp)
  injection hE with hE
  injection hE with hE1 hE2
  subst hE1 hE2
  simp only [List.getElem_cons_zero, List.getElem_cons_succ, Nat.zero_mul, Nat.one_mul, Nat.add_zero, Nat.reduceMul] at h0 h1 h2
  have HK := Lib.hid (three_keep (HA1.out.keep hb2) (HBb1.out.keep hb2) (HC1.out.keep hb2))
  have HM : Hid (∀ W, Below w2.heap.size w2 W → BlockAt W bb o m0 ∧ BlockAt W bb (o + 3) m1 ∧ BlockAt W bb (o + 6) m2) := Lib.hid (fun W hW => ⟨h0.keep hbl hW, h1.keep hbl hW, h2.keep hbl hW⟩)
  clear hb2 HB1 CB CS HQ HNm hml hhl hn0 h0 h1 h2 HA1 HBb1 HC1
  have hk0 := HK.out w2 (Below.refl _ _)
  unfold ThreeAt at hk0
  obtain ⟨a0, a1, a2, b0, b1, b2, c0, c1, c2⟩ := hk0
  go_wp2_with fail
  have HS : Hid (∀ W, Below w2.heap.size w2 W → W.cell? ⟨w.heap.size, 0, none⟩ = some (Sv a.name) ∧ W.cell? ⟨w.heap.size, 1, none⟩ = some (.int .i64 a.x) ∧ W.cell? ⟨w.heap.size, 2, none⟩ = some (.int .i64 a.y) ∧ W.cell? ⟨w.heap.size + 1, 0, none⟩ = some (Sv b.name) ∧ W.cell? ⟨w.heap.size + 1, 1, none⟩ = some (.int .i64 b.x) ∧ W.cell? ⟨w.heap.size + 1, 2, none⟩ = some (.int .i64 b.y) ∧ W.cell? ⟨w.heap.size + 1 + 1, 0, none⟩ = some (Sv c.name) ∧ W.cell? ⟨w.heap.size + 1 + 1, 1, none⟩ = some (.int .i64 c.x) ∧ W.cell? ⟨w.heap.size + 1 + 1, 2, none⟩ = some (.int .i64 c.y) ∧ W.cell? ⟨bb, o, none⟩ = some (Sv m0.name) ∧ W.cell? ⟨bb, o + 1, none⟩ = some (.int .i64 m0.x) ∧ W.cell? ⟨bb, o + 2, none⟩ = some (.int .i64 m0.y) ∧ W.cell? ⟨bb, o + 3, none⟩ = some (Sv m1.name) ∧ W.cell? ⟨bb, o + 4, none⟩ = some (.int .i64 m1.x) ∧ W.cell? ⟨bb, o + 5, none⟩ = some (.int .i64 m1.y) ∧ W.cell? ⟨bb, o + 6, none⟩ = some (Sv m2.name) ∧ W.cell? ⟨bb, o + 7, none⟩ = some (.int .i64 m2.x) ∧ W.cell? ⟨bb, o + 8, none⟩ = some (.int .i64 m2.y)) := Lib.hid (fun W hW => by
    obtain ⟨a0, a1, a2, b0, b1, b2, c0, c1, c2⟩ := HK.out W hW
    obtain ⟨⟨x0, x1, x2⟩, ⟨y0, y1, y2⟩, ⟨z0, z1, z2⟩⟩ := HM.out W hW
    exact ⟨a0, a1, a2, b0, b1, b2, c0, c1, c2, x0, x1, x2, y0, y1, y2, z0, z1, z2⟩)
  obtain ⟨_, _, _, _, _, _, _, _, _, x0, x1, x2, y0, y1, y2, z0, z1, z2⟩ := HS.out w2 (Below.refl _ _)
  go_region_held3 (fun W => W.cell? ⟨w.heap.size, 0, none⟩ = some (Sv a.name) ∧ W.cell? ⟨w.heap.size, 1, none⟩ = some (.int .i64 a.x) ∧ W.cell? ⟨w.heap.size, 2, none⟩ = some (.int .i64 a.y) ∧ W.cell? ⟨w.heap.size + 1, 0, none⟩ = some (Sv b.name) ∧ W.cell? ⟨w.heap.size + 1, 1, none⟩ = some (.int .i64 b.x) ∧ W.cell? ⟨w.heap.size + 1, 2, none⟩ = some (.int .i64 b.y) ∧ W.cell? ⟨w.heap.size + 1 + 1, 0, none⟩ = some (Sv c.name) ∧ W.cell? ⟨w.heap.size + 1 + 1, 1, none⟩ = some (.int .i64 c.x) ∧ W.cell? ⟨w.heap.size + 1 + 1, 2, none⟩ = some (.int .i64 c.y) ∧ W.cell? ⟨bb, o, none⟩ = some (Sv m0.name) ∧ W.cell? ⟨bb, o + 1, none⟩ = some (.int .i64 m0.x) ∧ W.cell? ⟨bb, o + 2, none⟩ = some (.int .i64 m0.y) ∧ W.cell? ⟨bb, o + 3, none⟩ = some (Sv m1.name) ∧ W.cell? ⟨bb, o + 4, none⟩ = some (.int .i64 m1.x) ∧ W.cell? ⟨bb, o + 5, none⟩ = some (.int .i64 m1.y) ∧ W.cell? ⟨bb, o + 6, none⟩ = some (Sv m2.name) ∧ W.cell? ⟨bb, o + 7, none⟩ = some (.int .i64 m2.x) ∧ W.cell? ⟨bb, o + 8, none⟩ = some (.int .i64 m2.y)) (first | exact HS.out _ (by repeat (first | assumption | (with_reducible exact Below.refl _ _) | (with_reducible refine Below.drew ?_)))) (first | (go_at_call 11; first | (with_reducible refine (C1.out _ (by repeat (first | assumption | (with_reducible exact Below.refl _ _) | (with_reducible refine Below.drew ?_)))).mono ?_; rintro e w3 ⟨rfl, hb3⟩) | (with_reducible refine (C2.out _ (by repeat (first | assumption | (with_reducible exact Below.refl _ _) | (with_reducible refine Below.drew ?_)))).mono ?_; rintro e w4 ⟨rfl, hb4⟩)))
  all_goals
    have HB4 := Lib.hid (HB2.out.trans (hb4.mono HB2.out.size))
    clear hb3 hb4 HK HM C1 C2
    go_wp2
    go_ret
    exact ⟨rfl, HB4.out⟩
end Go.Proofs.Ytifnmfljlgaeoaa
