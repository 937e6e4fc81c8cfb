/- Contract of the statements' sanity check on layer 2: it returns true. -/
import Derived.Test.YtgjnhefmheefbaaDoorMjE
namespace Go.Proofs.YtgjnhefmheefbaaDoor
open Go.RowKit Fl
attribute [local go_sem] bget

theorem k2_1 : parseT [(4, [wLane, [97], [98], [99]])] = .ok [⟨2, 4, [[97], [98], [99]], []⟩] := by rfl
theorem k2_2 : parseT [(7, [wLane, [97]])] = .error (7, 5) := by rfl
theorem k2_3 : parseT [(1, [wBlock, [49], [49], [49]])] = .error (1, 6) := by rfl
theorem k2_4 : parseT [(1, [wBlock, [97], [49], [120]])] = .error (1, 7) := by rfl
theorem k2_5 : validB ⟨2, 4, [[97], [98], [99]], []⟩ = true := by rfl

set_option maxRecDepth 100000 in
set_option maxHeartbeats 4000000 in
theorem known2_c (w : World) (hg : Shapes w) : Calls Tryd.prog 4 #[] w fun e w' => e = .returned (.bool true) ∧ Below w.heap.size w w' := by
  have HG := Lib.hid hg
  clear hg
  go_enter Tryd.func4, Tryd.ntmps4
  go_wp2_with fail
  have two : ∀ (W : World) (a b : Obj), Below W.heap.size W ((W.alloc a).alloc b) := fun W a b => ((Below.refl _ _).alloc (Nat.le_refl _) _).alloc (by simp) _
  have HT := Lib.hid two
  clear two
  refine (parse_lit (n := 4) (fs := [wLane, [97], [98], [99]]) (HG.out.keep (HT.out _ _ _)) (heap_alloc2_old _ _ _) rfl (heap_alloc2_new _ _ _) (by simp) (by decide)).mono ?_
  rw [k2_1]
  rintro e w1 ⟨hb1, v, rfl, hd⟩
  obtain ⟨A, c, rfl, hD⟩ := hd.at_
  have HB1 := Lib.hid ((HT.out _ _ _).trans (hb1.mono (HT.out w _ _).size))
  have HD := Lib.hid hD
  clear hb1 hd hD
  go_wp2_with fail
  refine (parse_lit (n := 7) (fs := [wLane, [97]]) (HG.out.keep (HB1.out.trans ((HT.out w1 _ _).mono HB1.out.size))) (heap_alloc2_old _ _ _) rfl (heap_alloc2_new _ _ _) (by simp) (by decide)).mono ?_
  rw [k2_2]
  rintro e w2 ⟨hb2, rfl⟩
  have hb12 := (HT.out w1 _ _).trans (hb2.mono (HT.out w1 _ _).size)
  have HB2 := Lib.hid (HB1.out.trans (hb12.mono HB1.out.size))
  have HD2 := Lib.hid (HD.out.keep hb12)
  clear hb2 hb12 HD HB1
  go_wp2_with fail
  refine (parse_lit (n := 1) (fs := [wBlock, [49], [49], [49]]) (HG.out.keep (HB2.out.trans ((HT.out w2 _ _).mono HB2.out.size))) (heap_alloc2_old _ _ _) rfl (heap_alloc2_new _ _ _) (by simp) (by decide)).mono ?_
  rw [k2_3]
  rintro e w3 ⟨hb3, rfl⟩
  have hb23 := (HT.out w2 _ _).trans (hb3.mono (HT.out w2 _ _).size)
  have HB3 := Lib.hid (HB2.out.trans (hb23.mono HB2.out.size))
  have HD3 := Lib.hid (HD2.out.keep hb23)
  clear hb3 hb23 HD2 HB2
  go_wp2_with fail
  refine (parse_lit (n := 1) (fs := [wBlock, [97], [49], [120]]) (HG.out.keep (HB3.out.trans ((HT.out w3 _ _).mono HB3.out.size))) (heap_alloc2_old _ _ _) rfl (heap_alloc2_new _ _ _) (by simp) (by decide)).mono ?_
  rw [k2_4]
  rintro e w4 ⟨hb4, rfl⟩
  have hb34 := (HT.out w3 _ _).trans (hb4.mono (HT.out w3 _ _).size)
  have HB4 := Lib.hid (HB3.out.trans (hb34.mono HB3.out.size))
  obtain ⟨b, o, A1, c1, A2, c2, rfl, e0, e1, e2, e3, h1, h2⟩ := (HD3.out.keep hb34).one (k := 0) (by simp)
  simp only [List.getElem_cons_zero, Nat.zero_mul, Nat.add_zero] at e0 e1 e2 e3 h1 h2
  have HV := Lib.hid (valid_c ⟨2, 4, [[97], [98], [99]], []⟩ A1 A2 c1 c2 w4 (HG.out.keep HB4.out) h1 h2 (by simp) (by simp) (by decide))
  rw [k2_5] at HV
  clear hb4 hb34 HD3 HB3 h1 h2
  go_wp2_with fail
  refine HV.out.mono ?_
  rintro e w5 ⟨rfl, hb5⟩
  go_wp2
  go_ret
  exact ⟨rfl, HB4.out.trans (hb5.mono HB4.out.size)⟩
end Go.Proofs.YtgjnhefmheefbaaDoor
