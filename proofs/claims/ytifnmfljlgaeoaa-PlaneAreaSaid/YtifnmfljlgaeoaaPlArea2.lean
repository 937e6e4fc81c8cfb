/- Contract of the reference's Area of layer 8. -/
import Derived.Test.YtifnmfljlgaeoaaPlWay
import Derived.Deep.CutRange
import Derived.Deep.DeepCutAuto
import Derived.BigRegion
namespace Go.Proofs.Ytifnmfljlgaeoaa
open Go Go.RowKit Fl

theorem alloc_cellsP {w : World} {n i : Nat} {u : Value} (h : w.cell? ⟨n, i, none⟩ = some u) (o : Obj) : (w.alloc o).cell? ⟨n, i, none⟩ = some u := by
  have := World.cell?_of_block (w := w) (a := ⟨n, i, none⟩) (Below.heap_alloc w o n (World.block_lt_of_cell? _ _ h))
  rw [this]; exact h
set_option maxRecDepth 100000 in
set_option maxHeartbeats 8000000 in
theorem refArea_c (A : Option Addr) (c : Nat) (l : List BlockD) (w : World) (hh : Holds w A (blockCells l)) (hl : l.length ≤ 1000000000000000000) : Calls Try.prog 16 #[.slice A l.length c] w fun e w' => e = .returned (.tuple #[.int .i64 (areaR l), .int .i64 (wayE l)]) ∧ Below w.heap.size w w' := by
  have CA := Lib.hid (all_c A c l w hh hl)
  rcases wayE_cases l with ⟨h1, h2⟩ | ⟨h1, h2, h3⟩ | ⟨h1, h2, h3⟩
  · have e1 : areaR l = 0 := by unfold areaR; rw [if_neg (by rw [h2]; decide)]
    have hd : decide (48 < l.length) = true := by simpa using h1
    rw [h2, e1]
    clear h2 hh CA e1
    go_enter Try.func16, Try.ntmps16
    go_wp2
    go_ret2
    exact ⟨rfl, Below.refl _ _⟩
  · have e1 : areaR l = 0 := by unfold areaR; rw [if_neg (by rw [h3]; decide)]
    have hd : decide (48 < l.length) = false := by simp; omega
    rw [h2] at CA
    rw [h3, e1]
    clear h3 hh h2 e1
    go_enter Try.func16, Try.ntmps16
    go_wp2_with fail
    refine CA.out.mono ?_
    rintro e w1 ⟨rfl, hb1⟩
    have HB1 := Lib.hid hb1
    clear hb1 CA
    go_wp2
    go_ret2
    exact ⟨rfl, HB1.out⟩
  · have e1 : areaR l = areaZ l := by unfold areaR; rw [if_pos h3]
    have hd : decide (48 < l.length) = false := by simp; omega
    have hok := allB_iff.1 h2
    rw [h2] at CA
    rw [h3, e1]
    clear h3 h2 e1
    by_cases hs : l.length < 3
    · have e2 : areaZ l = 0 := by unfold areaZ; rw [if_pos hs]
      have hd2 : decide (l.length < 3) = true := by simpa using hs
      rw [e2]
      clear e2 hh hok
      go_enter Try.func16, Try.ntmps16
      go_wp2_with fail
      refine CA.out.mono ?_
      rintro e w1 ⟨rfl, hb1⟩
      have HB1 := Lib.hid hb1
      clear hb1 CA
      go_wp2
      go_ret2
      exact ⟨rfl, HB1.out⟩
    · have e2 : areaZ l = areaK l l.length := by unfold areaZ; rw [if_neg hs]
      have hd2 : decide (l.length < 3) = false := by simpa using hs
      have HOk := Lib.hid hok
      have HBd := Lib.hid (area_bound hok)
      have HCr := Lib.hid (fun i j => cross_bound (all_at hok i) (all_at hok j))
      have HH := Lib.hid hh
      rw [e2]
      clear e2 hh hok
      go_enter Try.func16, Try.ntmps16
      go_wp2_with fail
      refine CA.out.mono ?_
      rintro e w1 ⟨rfl, hb1⟩
      have HB1 := Lib.hid hb1
      clear hb1 CA
      go_wp2
      go_loopw [4, 5, 6, 7] (fun sv iv _ _ wr => ∃ k : Nat, sv = .int .i64 (areaK l k) ∧ iv = .int .i64 k ∧ k ≤ l.length ∧ Hid (Below w.heap.size w wr)) (fun _ iv _ _ _ => l.length - (intOf iv).toNat)
      case atStart => exact ⟨0, rfl, rfl, Nat.zero_le _, HB1⟩
      case round =>
        clear HB1
        obtain ⟨k, rfl, rfl, hk, HW⟩ := hrel
        by_cases hlt : k < l.length
        · obtain ⟨j, hj, hjl⟩ : ∃ j, j = (k + 1) % l.length ∧ j < l.length := ⟨_, rfl, Nat.mod_lt _ (by omega)⟩
          have hrem : ((k : Int) + 1).tmod (l.length : Int) = (j : Int) := by
            rw [Int.tmod_eq_emod_of_nonneg (by omega), hj, Int.natCast_emod]
            rfl
          obtain ⟨b, o, rfl, hbl, hba⟩ := HH.out.block hlt
          obtain ⟨b', o', hE, _, hbb⟩ := HH.out.block hjl
          injection hE with hE
          injection hE with hE1 hE2
          subst hE1 hE2
          obtain ⟨a0, a1, a2⟩ := hba.keep hbl HW.out
          obtain ⟨b0, b1, b2⟩ := hbb.keep hbl HW.out
          have hw0 : IntKind.i64.wrap ((k : Int) + 1) = (k : Int) + 1 := wrap_in (by omega)
          have hne : ¬ ((l.length : Int) = 0) := by omega
          have HS := Lib.hid (areaK_succ l k)
          have hcr := HCr.out k j
          have hB0 := HBd.out k
          rw [atW_get hlt, ← hj, atW_get hjl] at HS
          rw [atW_get hlt, atW_get hjl] at hcr
          have hnl : ¬ l = [] := fun e => by rw [e] at hlt; simp at hlt
          have hbw : b < wr.heap.size := Nat.lt_of_lt_of_le hbl HW.out.size
          have hb1 : ¬ b = wr.heap.size := by omega
          have hb2 : ¬ b = wr.heap.size + 1 := by omega
          have a0' : ∀ ob, (wr.alloc ob).cell? ⟨b, o + k * 3, none⟩ = some (Sv l[k].name) := fun ob => alloc_cellsP a0 ob
          have a1' : ∀ ob, (wr.alloc ob).cell? ⟨b, o + k * 3 + 1, none⟩ = some (Iv l[k].x) := fun ob => alloc_cellsP a1 ob
          have a2' : ∀ ob, (wr.alloc ob).cell? ⟨b, o + k * 3 + 2, none⟩ = some (Iv l[k].y) := fun ob => alloc_cellsP a2 ob
          have b0' : ∀ ob, (wr.alloc ob).cell? ⟨b, o + j * 3, none⟩ = some (Sv l[j].name) := fun ob => alloc_cellsP b0 ob
          have b1' : ∀ ob, (wr.alloc ob).cell? ⟨b, o + j * 3 + 1, none⟩ = some (Iv l[j].x) := fun ob => alloc_cellsP b1 ob
          have b2' : ∀ ob, (wr.alloc ob).cell? ⟨b, o + j * 3 + 2, none⟩ = some (Iv l[j].y) := fun ob => alloc_cellsP b2 ob
          have a0'' : ∀ ob oc, ((wr.alloc ob).alloc oc).cell? ⟨b, o + k * 3, none⟩ = some (Sv l[k].name) := fun ob oc => alloc_cellsP (a0' ob) oc
          have a1'' : ∀ ob oc, ((wr.alloc ob).alloc oc).cell? ⟨b, o + k * 3 + 1, none⟩ = some (Iv l[k].x) := fun ob oc => alloc_cellsP (a1' ob) oc
          have a2'' : ∀ ob oc, ((wr.alloc ob).alloc oc).cell? ⟨b, o + k * 3 + 2, none⟩ = some (Iv l[k].y) := fun ob oc => alloc_cellsP (a2' ob) oc
          have b0'' : ∀ ob oc, ((wr.alloc ob).alloc oc).cell? ⟨b, o + j * 3, none⟩ = some (Sv l[j].name) := fun ob oc => alloc_cellsP (b0' ob) oc
          have b1'' : ∀ ob oc, ((wr.alloc ob).alloc oc).cell? ⟨b, o + j * 3 + 1, none⟩ = some (Iv l[j].x) := fun ob oc => alloc_cellsP (b1' ob) oc
          have b2'' : ∀ ob oc, ((wr.alloc ob).alloc oc).cell? ⟨b, o + j * 3 + 2, none⟩ = some (Iv l[j].y) := fun ob oc => alloc_cellsP (b2' ob) oc
          have kx := okB_iff.1 (HOk.out _ (List.getElem_mem hlt))
          have ky := okB_iff.1 (HOk.out _ (List.getElem_mem hjl))
          clear hba hbb hj
          generalize l[k] = x at *
          generalize l[j] = y at *
          generalize areaK l k = s at *
          go_wp2_with fail
          go_cut [6, 7] from 17 to 47 (fun p q wx => ∃ G H, p = .pointer (some ⟨G, 0, none⟩) ∧ q = .pointer (some ⟨H, 0, none⟩) ∧ Hid (BlkAt wx G x) ∧ Hid (BlkAt wx H y) ∧ Hid (Below wr.heap.size wr wx))
          case first =>
            have HN := Lib.hid (two_new wr x y)
            have HM := Lib.hid (two_new wr y x)
            go_region
            · go_wp2_with fail
              go_meet
              case rel => exact ⟨_, _, rfl, rfl, HN.out.1, HN.out.2.1, Lib.hid HN.out.2.2.drew⟩
            · go_wp2_with fail
              go_meet
              case rel => exact ⟨_, _, rfl, rfl, HM.out.2.1, HM.out.1, Lib.hid HM.out.2.2.drew⟩
          case rest =>
            obtain ⟨G, H, rfl, rfl, hG, hH, hW⟩ := hcut
            obtain ⟨x0, x1, x2⟩ := hG.out.cell
            obtain ⟨y0, y1, y2⟩ := hH.out.cell
            have hsz : w.heap.size ≤ wr.heap.size := HW.out.size
            have HW2 := Lib.hid (HW.out.trans (hW.out.mono hsz))
            have m1 := mul_bound (a := x.x) (b := y.y) (A := 9999) (B := 9999) (by omega) (by omega)
            have m2 := mul_bound (a := x.y) (b := y.x) (A := 9999) (B := 9999) (by omega) (by omega)
            have hw1 : IntKind.i64.wrap (x.x * y.y) = x.x * y.y := wrap_in (by omega)
            have hw2 : IntKind.i64.wrap (x.y * y.x) = x.y * y.x := wrap_in (by omega)
            have hw3 : IntKind.i64.wrap (x.x * y.y - x.y * y.x) = x.x * y.y - x.y * y.x := wrap_in (by omega)
            have hw4 : IntKind.i64.wrap (s + (x.x * y.y - x.y * y.x)) = s + (x.x * y.y - x.y * y.x) := wrap_in (by omega)
            have HN : Hid (areaK l (k + 1) = s + (x.x * y.y - x.y * y.x)) := Lib.hid HS.out
            clear m1 m2 kx ky hG hH hW HW hcr hB0 a0' a1' a2' b0' b1' b2' a0'' a1'' a2'' b0'' b1'' b2'' a0 a1 a2 b0 b1 b2 HS
            go_wp2
            go_roundw
            case rel => exact ⟨k + 1, by rw [HN.out], by go_num, by omega, HW2⟩
            case measure => simp [intOf]; omega
        · obtain rfl : k = l.length := by omega
          go_wp2
          go_ret2
          exact ⟨rfl, HW.out⟩
end Go.Proofs.Ytifnmfljlgaeoaa
