/- Contract of plane's Turns. -/
import Derived.Test.YtifnmfljlgaeoaaPdTurn
import Derived.Deep.RegionWith
import Derived.Deep.RegionLaw
import Derived.Deep.CutRange
import Derived.Deep.DeepCutAuto
import Derived.BigRegion
namespace Go.Proofs.Ytifnmfljlgaeoaa
open Go Go.RowKit Fl

theorem own_ints {w : World} {base n : Nat} {v : Value} {l : List Int} (h : w.ownsRow base 3 1 v n (l.map Iv)) : ∃ A c, v = .slice A n c ∧ Holds w A (l.map Iv) := by
  have h0 := h
  obtain ⟨h1, h2⟩ := h
  rcases h2 with ⟨rfl, rfl⟩ | ⟨g, cap, cur, rfl, _⟩
  · exact ⟨none, 0, rfl, ownsRow_holds h0⟩
  · exact ⟨_, cap, rfl, ownsRow_holds h0⟩
set_option maxRecDepth 100000 in
set_option maxHeartbeats 16000000 in
theorem devTurns_c (A : Option Addr) (c : Nat) (l : List BlockD) (w : World) (hh : Holds w A (blockCells l)) (hl : l.length ≤ 1000000000000000000) : Calls Try.prog 13 #[.slice A l.length c] w fun e w' => ∃ u, e = .returned (.tuple #[u, .int .i64 (wayE l)]) ∧ w'.ownsRow w.heap.size 3 1 u (turnsR l).length ((turnsR l).map Iv) ∧ Below w.heap.size w w' := by
  have CA := Lib.hid (devCheck_c A c l w hh hl)
  rcases wayE_cases l with ⟨h1, h2⟩ | ⟨h1, h2, h3⟩ | ⟨h1, h2, h3⟩
  · have e1 : Hid (turnsR l = []) := Lib.hid (by unfold turnsR; rw [if_neg (by rw [h2]; decide)])
    rw [h2] at CA ⊢
    clear h2 hh
    go_enter Try.func13, Try.ntmps13
    go_wp2_with fail
    refine CA.out.mono ?_
    rintro e w1 ⟨rfl, hb1⟩
    have HB1 := Lib.hid hb1
    clear hb1 CA
    go_wp2
    go_ret2
    exact ⟨_, rfl, by rw [e1.out]; exact World.ownsRow_nil _ _ _ _, HB1.out⟩
  · have e1 : Hid (turnsR l = []) := Lib.hid (by unfold turnsR; rw [if_neg (by rw [h3]; decide)])
    rw [h3] at CA ⊢
    clear h3 hh h2
    go_enter Try.func13, Try.ntmps13
    go_wp2_with fail
    refine CA.out.mono ?_
    rintro e w1 ⟨rfl, hb1⟩
    have HB1 := Lib.hid hb1
    clear hb1 CA
    go_wp2
    go_ret2
    exact ⟨_, rfl, by rw [e1.out]; exact World.ownsRow_nil _ _ _ _, HB1.out⟩
  · have e1 : Hid (turnsR l = turnsK l (l.length - 2)) := Lib.hid (by unfold turnsR; rw [if_pos h3])
    have HOk := Lib.hid (allB_iff.1 h2)
    have HH := Lib.hid hh
    rw [h3] at CA ⊢
    clear h3 hh h2
    go_enter Try.func13, Try.ntmps13
    go_wp2_with fail
    refine CA.out.mono ?_
    rintro e w1 ⟨rfl, hb1⟩
    have HB1 := Lib.hid hb1
    have HO1 : Hid (w1.ownsRow w.heap.size 3 1 (.slice none 0 0) (turnsK l 0).length ((turnsK l 0).map Iv)) := Lib.hid (World.ownsRow_nil _ _ _ _)
    clear hb1 CA
    go_wp2
    go_loopw [5, 6] (fun v iv wr => ∃ (k m : Nat), iv = .int .i64 (m : Int) ∧ m = k + 2 ∧ (k = 0 ∨ m ≤ l.length) ∧ Hid (wr.ownsRow w.heap.size 3 1 v (turnsK l k).length ((turnsK l k).map Iv)) ∧ Hid (Below w.heap.size w wr)) (fun _ iv _ => l.length - (intOf iv).toNat)
    case atStart => exact ⟨0, 2, rfl, rfl, .inl rfl, HO1, HB1⟩
    case round =>
      clear HO1 HB1
      obtain ⟨k, m, rfl, hkm, hk, HO, HW⟩ := hrel
      have hkl : (turnsK l k).length ≤ 1000 := by rw [turnsK_len]; omega
      by_cases hlt : m < l.length
      · obtain ⟨j, hj⟩ : ∃ j, j = k + 1 := ⟨_, rfl⟩
        have hjl : j < l.length := by omega
        have hkl2 : k < l.length := by omega
        obtain ⟨b, o, rfl, hbl, hba⟩ := HH.out.block hkl2
        obtain ⟨b', o', hE, _, hbb⟩ := HH.out.block hjl
        injection hE with hE
        injection hE with hE1 hE2
        subst hE1 hE2
        obtain ⟨b', o', hE, _, hbc⟩ := HH.out.block hlt
        injection hE with hE
        injection hE with hE1 hE2
        subst hE1 hE2
        have hok1 := HOk.out _ (List.getElem_mem hkl2)
        have hok2 := HOk.out _ (List.getElem_mem hjl)
        have hok3 := HOk.out _ (List.getElem_mem hlt)
        have HK : Hid (∀ W, Below wr.heap.size wr W → BlockAt W b (o + k * 3) l[k] ∧ BlockAt W b (o + j * 3) l[j] ∧ BlockAt W b (o + m * 3) l[m]) := Lib.hid (fun W hW => ⟨hba.keep hbl (HW.out.trans (hW.mono HW.out.size)), hbb.keep hbl (HW.out.trans (hW.mono HW.out.size)), hbc.keep hbl (HW.out.trans (hW.mono HW.out.size))⟩)
        have CA1 := Lib.hid (step_from hok1 hok2 wr)
        have CB1 := Lib.hid (step_from hok2 hok3 wr)
        have HT := Lib.hid (fun (r1 i1 r2 i2 : Nat) k1 k2 k3 k4 (W : World) => between_z hok1 hok2 hok3 (r1 := r1) (i1 := i1) (r2 := r2) (i2 := i2) k1 k2 k3 k4 W)
        have HS : Hid (turnsK l (k + 1) = turnsK l k ++ [turnZ l[k] l[j] l[m]]) := Lib.hid (by subst hj hkm; rw [turnsK_succ, atW_get hkl2, atW_get hjl, atW_get hlt])
        have hw2 : IntKind.i64.wrap ((m : Int) - 2) = (k : Int) := by rw [show (m : Int) - 2 = (k : Int) by omega]; exact wrap_in (by omega)
        have hw1 : IntKind.i64.wrap ((m : Int) - 1) = (j : Int) := by rw [show (m : Int) - 1 = (j : Int) by omega]; exact wrap_in (by omega)
        have hw3 : IntKind.i64.wrap ((m : Int) + 1) = (m : Int) + 1 := wrap_in (by omega)
        have HKM := Lib.hid (And.intro hkm hj)
        clear hba hbb hbc hok1 hok2 hok3 hkm hj
        generalize turnZ l[k] l[j] l[m] = tz at *
        generalize l[k] = x at *
        generalize l[j] = y at *
        generalize l[m] = z at *
        obtain ⟨⟨a0, a1, a2⟩, ⟨b0, b1, b2⟩, ⟨c0, c1, c2⟩⟩ := HK.out wr (Below.refl _ _)
        go_wp2_with fail
        go_cut [7, 8] from 14 to 46 (fun p q wx => ∃ r1 i1 r2 i2, p = .complex .f64 r1 i1 ∧ q = .complex .f64 r2 i2 ∧ Hid (IsF r1 (y.x - x.x)) ∧ Hid (IsF i1 (y.y - x.y)) ∧ Hid (IsF r2 (z.x - y.x)) ∧ Hid (IsF i2 (z.y - y.y)) ∧ Hid (Below wr.heap.size wr wx))
        case first =>
          go_region_law (go_simp; go_at_call 20; first | (with_reducible refine (CA1.out _ (by repeat (first | assumption | (with_reducible exact Below.refl _ _) | (with_reducible refine Below.drew ?_)))).mono ?_; rintro e w2 ⟨r1, i1, rfl, k1, k2, hb2⟩; have hk2 := HK.out w2 hb2; obtain ⟨⟨x0, x1, x2⟩, ⟨y0, y1, y2⟩, ⟨z0, z1, z2⟩⟩ := hk2) | (with_reducible refine (CB1.out _ (by repeat (first | assumption | (with_reducible exact Below.refl _ _) | (with_reducible refine Below.drew ?_)))).mono ?_; rintro e w3 ⟨r2, i2, rfl, m1, m2, hb3⟩; have hk3 := HK.out w3 hb3; obtain ⟨⟨x0, x1, x2⟩, ⟨y0, y1, y2⟩, ⟨z0, z1, z2⟩⟩ := hk3))
          all_goals
            go_wp2_with fail
            go_meet
            case rel => exact ⟨r1, i1, r2, i2, rfl, rfl, Lib.hid k1, Lib.hid k2, Lib.hid m1, Lib.hid m2, Lib.hid (by repeat (first | assumption | (with_reducible exact Below.refl _ _) | (with_reducible refine Below.drew ?_)))⟩
        case rest =>
          obtain ⟨r1, i1, r2, i2, rfl, rfl, k1, k2, m1, m2, hW9⟩ := hcut
          have CT := Lib.hid (HT.out r1 i1 r2 i2 k1.out k2.out m1.out m2.out)
          clear HT HK CA1 CB1 a0 a1 a2 b0 b1 b2 c0 c1 c2 k1 k2 m1 m2 hw1 hw2
          go_wp2_with fail
          refine (CT.out _).mono ?_
          rintro e w9 ⟨rfl, rfl⟩
          have HW9 := Lib.hid (HW.out.trans (hW9.out.mono HW.out.size))
          have HO9 := Lib.hid (ownsRow_below HO.out hW9.out)
          have HBa := Lib.hid (own_base HO9.out)
          have hws : w.heap.size ≤ w9.heap.size := HW9.out.size
          clear hW9 HO HW CT
          go_wp2_with (at_builtin; refine app_int _ rfl _ _ rfl w.heap.size _ _ _ rfl (HO9.out.alloc _) _ tz rfl (by rw [cell_of_row _ _ 0 _ _ _ (heap_alloc_new w9 _)]; rfl) (by omega) (by simp; omega) ?_)
          intro v' w' hown hgrow
          have HO8 : Hid (w'.ownsRow w.heap.size 3 1 v' (turnsK l (k + 1)).length ((turnsK l (k + 1)).map Iv)) := Lib.hid (by rw [HS.out]; simpa using hown)
          have HW8 : Hid (Below w.heap.size w w') := Lib.hid ((HW9.out.alloc hws _).grown hgrow (by simp; omega) (fun q hq => HBa.out q hq))
          clear hown hgrow HBa HO9 HW9
          have hkm := HKM.out
          go_wp2
          go_roundw
          case rel => exact ⟨k + 1, m + 1, by go_num, by omega, .inr (by omega), HO8, HW8⟩
          case measure => simp [intOf]; omega
      · have HF : Hid (turnsK l k = turnsR l) := Lib.hid (by rw [e1.out]; congr 1; omega)
        go_wp2
        go_ret2
        exact ⟨_, rfl, by rw [← HF.out]; exact HO.out, HW.out⟩
end Go.Proofs.Ytifnmfljlgaeoaa
