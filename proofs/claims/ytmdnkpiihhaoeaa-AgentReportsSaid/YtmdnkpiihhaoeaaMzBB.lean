/- Joined texts. -/
import Derived.OpenShut
import Derived.Test.YtmdnkpiihhaoeaaRows
import Derived.Test.YtmdnkpiihhaoeaaMzAR
import Derived.Carry
import Derived.SizedLaws
import Derived.ProofKit
import Derived.Deep.DeepHandedRow
import Derived.Lib.LaidTab
import Derived.Test.YtmdnkpiihhaoeaaAgDrive
namespace Go.Proofs.Ytmdnkpiihhaoeaa
open Go.ChangeShapes Go.WideShapes Go.ChangeAt Go.RowKit

theorem own_none : ownKnob Try.prog.godebug = none := by kernel_rfl
noncomputable def laidWorld (os : Os) : World := World.holding Try.prog os ⟨#[], #[], []⟩
theorem laid_at (os : Os) (args : Array Value) : laidMet Try.prog [] ((laidWorld os).forCall (fun _ _ => 0) ⟨#[], args, []⟩).memory :=
  laidMet_of_run' 8 (by kernel_rfl) (by kernel_rfl)
theorem laidOut : laidOutB Try.prog = true := by kernel_rfl
theorem cellsInt : Try.prog.cellsOf 3 = 1 := by kernel_rfl
set_option maxRecDepth 100000 in
/-- An argument of type []int holds a list of numbers. -/
theorem open_list {H : Type} {enc : TypeId × Value → H} {W : World} {v : Value} {d : DataW H} {p : List MemPlace} {base : Nat}
    (hok : Value.okWide Try.prog W .any base 25 v) (h : DataW.Trod enc Try.prog W 0 (fun _ => true) true 25 v d p) :
    ∃ (A : Option Addr) (c : Nat) (zs : List Int), v = .slice A zs.length c ∧ IntsAt W W.heap.size A zs ∧ zs.length ≤ maxLen := by
  obtain ⟨a0, len, cap, rfl⟩ := okWide_slice Try.underlying25 hok
  obtain ⟨fuel, hf⟩ := h
  rcases open_ints Try.underlying25 Try.underlying3 cellsInt hf with ⟨hcs, hx⟩ | ⟨a, len', cap', zs, hcs, _, hl, hm, hz, hx, hcell, hwz⟩
  · simp [Value.cells] at hcs
    obtain ⟨rfl, rfl, rfl⟩ := hcs
    exact ⟨none, 0, [], rfl, fun h => by simp at h, by simp⟩
  · simp [Value.cells] at hcs
    obtain ⟨rfl, rfl, rfl⟩ := hcs
    simp only [if_true] at hz
    have hlen : (zs.take len).length = len := by simp; omega
    refine ⟨some a, cap, zs.take len, by rw [hlen], fun hn => ?_, by rw [hlen]; omega⟩
    rw [hlen] at hn
    obtain ⟨b, off, rfl, hc⟩ := ints_at hcell (by omega)
    refine ⟨b, off, rfl, World.block_lt_of_cell? _ _ (hc 0 (by omega)), fun j hj => ?_⟩
    rw [hlen] at hj
    have hjz : j < zs.length := by omega
    have hwj := bounds_i64 (hwz _ (List.getElem_mem hjz))
    have e : (zs.take len)[j]'(by rw [hlen]; exact hj) = zs[j] := by simp
    rw [e]
    refine ⟨?_, hwj.1, hwj.2⟩
    rw [hc j hjz]
    simp [List.getD, hjz]
/-- The type is an array, its value an aggregate. -/
theorem okWide_arr {P : Program} {w : World} {r : Reach} {base : Nat} {t : TypeId} {v : Value} {n : Nat} {e : TypeId} (ht : P.underlying t = some (.array n e)) (h : Value.okWide P w r base t v) : ∃ cs, v = .agg cs ∧ cs.size = P.cellsOf t := by
  simp only [Value.okWide, ht] at h
  obtain ⟨cs, h1, h2, _⟩ := h
  exact ⟨cs, h1, h2⟩
end Go.Proofs.Ytmdnkpiihhaoeaa
namespace Go.Proofs.Ytmdnkpiihhaoeaa
open Go Go.RowKit Fl

theorem BodAt.put0 {w : World} {b : Nat} {bc bd v : Int} {bs bf : Bool} (h : BodAt w b ⟨bc, bd, bs, bf⟩) : BodAt (w.setCell ⟨b, 0, none⟩ (.int .i64 v)) b ⟨v, bd, bs, bf⟩ := by
  unfold BodAt at h ⊢
  simp [World.setCell, Array.getElem?_modify, h]
theorem BodAt.put1 {w : World} {b : Nat} {bc bd v : Int} {bs bf : Bool} (h : BodAt w b ⟨bc, bd, bs, bf⟩) : BodAt (w.setCell ⟨b, 1, none⟩ (.int .i64 v)) b ⟨bc, v, bs, bf⟩ := by
  unfold BodAt at h ⊢
  simp [World.setCell, Array.getElem?_modify, h]
theorem ends_is (b : BodD) : endsB b = (b.cel != -1 && b.dst != -1 && !b.flt) := rfl
theorem begs_is (fol : Bool) (a : AgtD) (b : BodD) : begsB fol a b = (restB b && decide (a.dst ≠ -1) && fol) := rfl
theorem rest_is (b : BodD) : restB b = (b.cel != -1 && b.dst == -1 && !b.srv && !b.flt) := rfl
set_option maxRecDepth 100000 in
set_option maxHeartbeats 8000000 in
theorem refDrive_c (Ab An As Ar : Option Addr) (cb cn cs cr : Nat) (N : NetD) (a : AgtD) (r : Int) (b : BodD) (fol : Bool) (w : World)
    (hF : ∀ W, Below w.heap.size w W → Calls Try.prog 40 #[.agg #[.slice Ab N.blocks.length cb, .slice An N.next.length cn, .slice As N.spurs.length cs, .slice Ar N.robots.length cr, Iv N.queue, Iv N.aging, Iv N.detours, Iv N.patience], .int .i64 b.cel, .int .i64 a.dst] W fun e w' => e = .returned (.bool fol) ∧ Below W.heap.size W w') :
    Calls Try.prog 19 #[.agg #[.slice Ab N.blocks.length cb, .slice An N.next.length cn, .slice As N.spurs.length cs, .slice Ar N.robots.length cr, Iv N.queue, Iv N.aging, Iv N.detours, Iv N.patience], AV a, .int .i64 r, BV b] w (ABFPost w (driveA a b) (driveB fol a b) (driveL a r b)) := by
  have s1 : (w.alloc (.cells (netCells Ab An As Ar cb cn cs cr N) 29)).heap.size = w.heap.size + 1 := by simp
  have hT := four_ab (w.alloc (.cells (netCells Ab An As Ar cb cn cs cr N) 29)) a b
  rw [s1] at hT
  have HT := Lib.hid hT
  have HC := Lib.hid (fun W => refReportO_c ⟨a.las, -1, a.srv, 1, b.dst⟩ r W)
  have CR0 := Lib.hid (fun W => refRest_c b W)
  have CF := Lib.hid hF
  have HRT := Lib.hid (fun h => ends_yes (a := a) (r := r) (b := b) (fol := fol) h)
  have HRY := Lib.hid (fun h => begs_yes (a := a) (r := r) (b := b) (fol := fol) h)
  have HRN := Lib.hid (fun h => begs_no (a := a) (r := r) (b := b) (fol := fol) h)
  have HRX := Lib.hid (show endsB b = false → begsB fol a b = false ∨ True from fun _ => .inr trivial)
  have HNB := Lib.hid (fun (h : b.cel = -1 ∨ b.flt = true) => (show endsB b = false ∧ begsB fol a b = false from by
    rw [ends_is, begs_is, rest_is]
    rcases h with h | h <;> rw [h] <;> simp))
  clear hT s1 hF HRX
  generalize driveL a r b = L at *
  generalize driveA a b = R at *
  generalize driveB fol a b = Q at *
  obtain ⟨las, dst, srv, rpt, cel⟩ := a
  obtain ⟨bc, bd, bs, bf⟩ := b
  have HG0 : Hid (Below w.heap.size w (w.alloc (.cells (netCells Ab An As Ar cb cn cs cr N) 29)) ∧ (w.alloc (.cells (netCells Ab An As Ar cb cn cs cr N) 29)).heap[w.heap.size]? = some (.cells (netCells Ab An As Ar cb cn cs cr N) 29 (0, 0))) := Lib.hid ⟨below_newF w _, heap_alloc_new w _⟩
  go_enter Try.func19, Try.ntmps19
  go_upto_region 1 with fail
  have hn7 : (w.alloc (.cells (netCells Ab An As Ar cb cn cs cr N) 29)).heap.size = w.heap.size + 1 := by simp
  generalize (((((w.alloc (.cells (netCells Ab An As Ar cb cn cs cr N) 29)).alloc (.cells (AC ⟨las, dst, srv, rpt, cel⟩) 32)).alloc (.cells (BC ⟨bc, bd, bs, bf⟩) 34)).alloc (.cells (AC ⟨0, 0, false, 0, 0⟩) 32)).alloc (.cells (BC ⟨0, 0, false, false⟩) 34)) = w5 at *
  obtain ⟨t1, t2, t3, t4, t6, hs5⟩ := HT.out
  have HA := Lib.hid t1
  have HB := Lib.hid t2
  have HZ := Lib.hid t3
  have HY := Lib.hid t4
  have HW : Hid (Below w.heap.size w w5) := Lib.hid (HG0.out.1.trans (t6.mono (by omega)))
  have HG : Hid (w5.heap[w.heap.size]? = some (.cells (netCells Ab An As Ar cb cn cs cr N) 29 (0, 0))) := Lib.hid ((t6.block _ (by omega)).trans HG0.out.2)
  clear t1 t2 t3 t4 t6 HT hn7 hs5
  by_cases h1 : bc = -1
  · have HR := Lib.hid (HRN.out (HNB.out (.inl h1)).1 (HNB.out (.inl h1)).2)
    have h1' : (bc == -1) = true := by simpa using h1
    clear HRT HRY HRN HNB HC CR0 CF HG0 h1
    obtain ⟨x0, x1, x2, x3, x4⟩ := HA.out.cell
    obtain ⟨y0, y1, y2, y3⟩ := HB.out.cell
    obtain ⟨z0, z1, z2, z3, z4⟩ := HZ.out.cell
    obtain ⟨u0, u1, u2, u3⟩ := HY.out.cell
    have xf := HA.out.frozen
    have yf := HB.out.frozen
    have zf := HZ.out.frozen
    have uf := HY.out.frozen
    go_upto_region 2 with fail
    obtain ⟨e1, e2, e3⟩ := HR.out
    subst e1 e2 e3
    have HE := Lib.hid (both_after HZ.out HY.out (by omega) HW.out (by omega) (by omega) (own_nilF _ (w.heap.size + 1 + 1 + 1 + 1 + 1)) (by omega) (by omega) ⟨las, dst, srv, rpt, cel⟩ ⟨bc, bd, bs, bf⟩)
    go_region
    all_goals
      go_wp2
      refine bodyPost_ret (results_agb rfl _ _ _ _ ⟨las, dst, srv, rpt, cel⟩ ⟨bc, bd, bs, bf⟩ (.slice none 0 0) rfl ?_ rfl ?_ rfl) rfl ⟨(.slice none 0 0), rfl, ?_, ?_⟩
      all_goals first | with_reducible exact HE.out.1.1 | with_reducible exact HE.out.1.2.1 | with_reducible exact HE.out.1.2.2.1 | with_reducible exact HE.out.1.2.2.2 | with_reducible exact HE.out.2.1 | with_reducible exact HE.out.2.2.1 | with_reducible exact HE.out.2.2.2.1 | with_reducible exact HE.out.2.2.2.2
  · have h1' : (bc == -1) = false := by simpa using h1
    rcases bf with _ | _
    · by_cases h2 : bd = -1
      · have h2' : (bd != -1) = false := by simpa using h2
        subst h2
        have HE0 : Hid (endsB ⟨bc, -1, bs, false⟩ = false) := Lib.hid (by rw [ends_is]; simp)
        have HRY0 := Lib.hid (HRY.out HE0.out)
        have HRN0 := Lib.hid (HRN.out HE0.out)
        clear HRT HRY HRN HNB HC HE0
        rcases bs with _ | _
        · have hz : restB ⟨bc, -1, false, false⟩ = true := by rw [rest_is]; simp [h1]
          have CR := Lib.hid (fun W => CR0.out W)
          rw [hz] at CR
          clear CR0 hz
          obtain ⟨n0, n1, n2, n3, n4, n5, n6, n7⟩ := boxAt_of HG.out
          by_cases hd : dst = -1
          · have hd' : (dst != -1) = false := by simpa using hd
            have HR := Lib.hid (HRN0.out (by rw [begs_is]; simp [hd]))
            clear HRY0 HRN0 h1 hd HG0 CF
            obtain ⟨x0, x1, x2, x3, x4⟩ := HA.out.cell
            obtain ⟨y0, y1, y2, y3⟩ := HB.out.cell
            obtain ⟨z0, z1, z2, z3, z4⟩ := HZ.out.cell
            obtain ⟨u0, u1, u2, u3⟩ := HY.out.cell
            have xf := HA.out.frozen
            have yf := HB.out.frozen
            have zf := HZ.out.frozen
            have uf := HY.out.frozen
            go_wp2_with fail
            refine (CR.out _).mono ?_
            rintro e w6 ⟨rfl, hb6⟩
            replace HA := Lib.hid (HA.out.keep hb6)
            replace HB := Lib.hid (HB.out.keep hb6)
            replace HZ := Lib.hid (HZ.out.keep hb6)
            replace HY := Lib.hid (HY.out.keep hb6)
            replace HW := Lib.hid (HW.out.trans (hb6.mono HW.out.size))
            replace HG := Lib.hid ((hb6.block _ (block_lt HG.out)).trans HG.out)
            clear hb6 CR
            clear x0 x1 x2 x3 x4 y0 y1 y2 y3 z0 z1 z2 z3 z4 u0 u1 u2 u3 xf yf zf uf
            obtain ⟨x0, x1, x2, x3, x4⟩ := HA.out.cell
            obtain ⟨y0, y1, y2, y3⟩ := HB.out.cell
            obtain ⟨z0, z1, z2, z3, z4⟩ := HZ.out.cell
            obtain ⟨u0, u1, u2, u3⟩ := HY.out.cell
            have xf := HA.out.frozen
            have yf := HB.out.frozen
            have zf := HZ.out.frozen
            have uf := HY.out.frozen
            go_upto_region 11 with fail
            obtain ⟨e1, e2, e3⟩ := HR.out
            subst e1 e2 e3
            have HE := Lib.hid (both_after HZ.out HY.out (by omega) HW.out (by omega) (by omega) (own_nilF _ (w.heap.size + 1 + 1 + 1 + 1 + 1)) (by omega) (by omega) ⟨las, dst, srv, rpt, cel⟩ ⟨bc, -1, false, false⟩)
            go_region
            all_goals
              go_wp2
              refine bodyPost_ret (results_agb rfl _ _ _ _ ⟨las, dst, srv, rpt, cel⟩ ⟨bc, -1, false, false⟩ (.slice none 0 0) rfl ?_ rfl ?_ rfl) rfl ⟨(.slice none 0 0), rfl, ?_, ?_⟩
              all_goals first | with_reducible exact HE.out.1.1 | with_reducible exact HE.out.1.2.1 | with_reducible exact HE.out.1.2.2.1 | with_reducible exact HE.out.1.2.2.2 | with_reducible exact HE.out.2.1 | with_reducible exact HE.out.2.2.1 | with_reducible exact HE.out.2.2.2.1 | with_reducible exact HE.out.2.2.2.2
          · have hd' : (dst != -1) = true := by simpa using hd
            rcases fol with _ | _
            · have HR := Lib.hid (HRN0.out (by rw [begs_is]; simp))
              clear HRY0 HRN0 h1 hd HG0
              obtain ⟨x0, x1, x2, x3, x4⟩ := HA.out.cell
              obtain ⟨y0, y1, y2, y3⟩ := HB.out.cell
              obtain ⟨z0, z1, z2, z3, z4⟩ := HZ.out.cell
              obtain ⟨u0, u1, u2, u3⟩ := HY.out.cell
              have xf := HA.out.frozen
              have yf := HB.out.frozen
              have zf := HZ.out.frozen
              have uf := HY.out.frozen
              go_wp2_with fail
              refine (CR.out _).mono ?_
              rintro e w6 ⟨rfl, hb6⟩
              replace HA := Lib.hid (HA.out.keep hb6)
              replace HB := Lib.hid (HB.out.keep hb6)
              replace HZ := Lib.hid (HZ.out.keep hb6)
              replace HY := Lib.hid (HY.out.keep hb6)
              replace HW := Lib.hid (HW.out.trans (hb6.mono HW.out.size))
              replace HG := Lib.hid ((hb6.block _ (block_lt HG.out)).trans HG.out)
              clear hb6 CR
              clear x0 x1 x2 x3 x4 y0 y1 y2 y3 z0 z1 z2 z3 z4 u0 u1 u2 u3 xf yf zf uf
              obtain ⟨x0, x1, x2, x3, x4⟩ := HA.out.cell
              obtain ⟨y0, y1, y2, y3⟩ := HB.out.cell
              obtain ⟨z0, z1, z2, z3, z4⟩ := HZ.out.cell
              obtain ⟨u0, u1, u2, u3⟩ := HY.out.cell
              have xf := HA.out.frozen
              have yf := HB.out.frozen
              have zf := HZ.out.frozen
              have uf := HY.out.frozen
              clear n0 n1 n2 n3 n4 n5 n6 n7
              obtain ⟨n0, n1, n2, n3, n4, n5, n6, n7⟩ := boxAt_of HG.out
              go_wp2_with fail
              refine (CF.out _ HW.out).mono ?_
              rintro e w7 ⟨rfl, hb7⟩
              replace HA := Lib.hid (HA.out.keep hb7)
              replace HB := Lib.hid (HB.out.keep hb7)
              replace HZ := Lib.hid (HZ.out.keep hb7)
              replace HY := Lib.hid (HY.out.keep hb7)
              replace HW := Lib.hid (HW.out.trans (hb7.mono HW.out.size))
              replace HG := Lib.hid ((hb7.block _ (block_lt HG.out)).trans HG.out)
              clear hb7 CF n0 n1 n2 n3 n4 n5 n6 n7
              clear x0 x1 x2 x3 x4 y0 y1 y2 y3 z0 z1 z2 z3 z4 u0 u1 u2 u3 xf yf zf uf
              obtain ⟨x0, x1, x2, x3, x4⟩ := HA.out.cell
              obtain ⟨y0, y1, y2, y3⟩ := HB.out.cell
              obtain ⟨z0, z1, z2, z3, z4⟩ := HZ.out.cell
              obtain ⟨u0, u1, u2, u3⟩ := HY.out.cell
              have xf := HA.out.frozen
              have yf := HB.out.frozen
              have zf := HZ.out.frozen
              have uf := HY.out.frozen
              go_upto_region 11 with fail
              obtain ⟨e1, e2, e3⟩ := HR.out
              subst e1 e2 e3
              have HE := Lib.hid (both_after HZ.out HY.out (by omega) HW.out (by omega) (by omega) (own_nilF _ (w.heap.size + 1 + 1 + 1 + 1 + 1)) (by omega) (by omega) ⟨las, dst, srv, rpt, cel⟩ ⟨bc, -1, false, false⟩)
              go_region
              all_goals
                go_wp2
                refine bodyPost_ret (results_agb rfl _ _ _ _ ⟨las, dst, srv, rpt, cel⟩ ⟨bc, -1, false, false⟩ (.slice none 0 0) rfl ?_ rfl ?_ rfl) rfl ⟨(.slice none 0 0), rfl, ?_, ?_⟩
                all_goals first | with_reducible exact HE.out.1.1 | with_reducible exact HE.out.1.2.1 | with_reducible exact HE.out.1.2.2.1 | with_reducible exact HE.out.1.2.2.2 | with_reducible exact HE.out.2.1 | with_reducible exact HE.out.2.2.1 | with_reducible exact HE.out.2.2.2.1 | with_reducible exact HE.out.2.2.2.2
            · have HR := Lib.hid (HRY0.out (by rw [begs_is, rest_is]; simp [h1, hd]))
              clear HRY0 HRN0 h1 hd HG0
              obtain ⟨x0, x1, x2, x3, x4⟩ := HA.out.cell
              obtain ⟨y0, y1, y2, y3⟩ := HB.out.cell
              obtain ⟨z0, z1, z2, z3, z4⟩ := HZ.out.cell
              obtain ⟨u0, u1, u2, u3⟩ := HY.out.cell
              have xf := HA.out.frozen
              have yf := HB.out.frozen
              have zf := HZ.out.frozen
              have uf := HY.out.frozen
              go_wp2_with fail
              refine (CR.out _).mono ?_
              rintro e w6 ⟨rfl, hb6⟩
              replace HA := Lib.hid (HA.out.keep hb6)
              replace HB := Lib.hid (HB.out.keep hb6)
              replace HZ := Lib.hid (HZ.out.keep hb6)
              replace HY := Lib.hid (HY.out.keep hb6)
              replace HW := Lib.hid (HW.out.trans (hb6.mono HW.out.size))
              replace HG := Lib.hid ((hb6.block _ (block_lt HG.out)).trans HG.out)
              clear hb6 CR
              clear x0 x1 x2 x3 x4 y0 y1 y2 y3 z0 z1 z2 z3 z4 u0 u1 u2 u3 xf yf zf uf
              obtain ⟨x0, x1, x2, x3, x4⟩ := HA.out.cell
              obtain ⟨y0, y1, y2, y3⟩ := HB.out.cell
              obtain ⟨z0, z1, z2, z3, z4⟩ := HZ.out.cell
              obtain ⟨u0, u1, u2, u3⟩ := HY.out.cell
              have xf := HA.out.frozen
              have yf := HB.out.frozen
              have zf := HZ.out.frozen
              have uf := HY.out.frozen
              clear n0 n1 n2 n3 n4 n5 n6 n7
              obtain ⟨n0, n1, n2, n3, n4, n5, n6, n7⟩ := boxAt_of HG.out
              go_wp2_with fail
              refine (CF.out _ HW.out).mono ?_
              rintro e w7 ⟨rfl, hb7⟩
              replace HA := Lib.hid (HA.out.keep hb7)
              replace HB := Lib.hid (HB.out.keep hb7)
              replace HZ := Lib.hid (HZ.out.keep hb7)
              replace HY := Lib.hid (HY.out.keep hb7)
              replace HW := Lib.hid (HW.out.trans (hb7.mono HW.out.size))
              replace HG := Lib.hid ((hb7.block _ (block_lt HG.out)).trans HG.out)
              clear hb7 CF n0 n1 n2 n3 n4 n5 n6 n7
              clear x0 x1 x2 x3 x4 y0 y1 y2 y3 z0 z1 z2 z3 z4 u0 u1 u2 u3 xf yf zf uf
              obtain ⟨x0, x1, x2, x3, x4⟩ := HA.out.cell
              obtain ⟨y0, y1, y2, y3⟩ := HB.out.cell
              obtain ⟨z0, z1, z2, z3, z4⟩ := HZ.out.cell
              obtain ⟨u0, u1, u2, u3⟩ := HY.out.cell
              have xf := HA.out.frozen
              have yf := HB.out.frozen
              have zf := HZ.out.frozen
              have uf := HY.out.frozen
              go_upto_region 11 with fail
              have hg := one_grown w7 (w.heap.size + 1 + 1) 1 (.int .i64 dst)
              have hnM := (show BodAt (w7.setCell ⟨w.heap.size + 1 + 1, 1, none⟩ (.int .i64 dst)) (w.heap.size + 1 + 1) ⟨bc, dst, false, false⟩ from HB.out.put1)
              replace HB := Lib.hid hnM
              replace HA := Lib.hid (HA.out.grown hg (fun e => by injection e with e; omega))
              replace HZ := Lib.hid (HZ.out.grown hg (fun e => by injection e with e; omega))
              replace HY := Lib.hid (BodAt.grown HY.out hg (fun e => by injection e with e; omega))
              replace HW := Lib.hid (below_put (g := w.heap.size + 1 + 1) (i := 1) (v := .int .i64 dst) HW.out (by omega))
              generalize w7.setCell ⟨w.heap.size + 1 + 1, 1, none⟩ (.int .i64 dst) = w8 at *
              clear hg hnM
              clear x0 x1 x2 x3 x4 y0 y1 y2 y3 z0 z1 z2 z3 z4 u0 u1 u2 u3 xf yf zf uf
              obtain ⟨x0, x1, x2, x3, x4⟩ := HA.out.cell
              obtain ⟨y0, y1, y2, y3⟩ := HB.out.cell
              obtain ⟨z0, z1, z2, z3, z4⟩ := HZ.out.cell
              obtain ⟨u0, u1, u2, u3⟩ := HY.out.cell
              have xf := HA.out.frozen
              have yf := HB.out.frozen
              have zf := HZ.out.frozen
              have uf := HY.out.frozen
              obtain ⟨e1, e2, e3⟩ := HR.out
              subst e1 e2 e3
              have HE := Lib.hid (both_after HZ.out HY.out (by omega) HW.out (by omega) (by omega) (own_nilF _ (w.heap.size + 1 + 1 + 1 + 1 + 1)) (by omega) (by omega) ⟨las, dst, srv, rpt, cel⟩ ⟨bc, dst, false, false⟩)
              go_region
              all_goals
                go_wp2
                refine bodyPost_ret (results_agb rfl _ _ _ _ ⟨las, dst, srv, rpt, cel⟩ ⟨bc, dst, false, false⟩ (.slice none 0 0) rfl ?_ rfl ?_ rfl) rfl ⟨(.slice none 0 0), rfl, ?_, ?_⟩
                all_goals first | with_reducible exact HE.out.1.1 | with_reducible exact HE.out.1.2.1 | with_reducible exact HE.out.1.2.2.1 | with_reducible exact HE.out.1.2.2.2 | with_reducible exact HE.out.2.1 | with_reducible exact HE.out.2.2.1 | with_reducible exact HE.out.2.2.2.1 | with_reducible exact HE.out.2.2.2.2
        · have hz : restB ⟨bc, -1, true, false⟩ = false := by rw [rest_is]; simp
          have CR := Lib.hid (fun W => CR0.out W)
          rw [hz] at CR
          have HR := Lib.hid (HRN0.out (by rw [begs_is, hz]; simp))
          clear CR0 hz HRY0 HRN0 h1 HG0 CF
          obtain ⟨x0, x1, x2, x3, x4⟩ := HA.out.cell
          obtain ⟨y0, y1, y2, y3⟩ := HB.out.cell
          obtain ⟨z0, z1, z2, z3, z4⟩ := HZ.out.cell
          obtain ⟨u0, u1, u2, u3⟩ := HY.out.cell
          have xf := HA.out.frozen
          have yf := HB.out.frozen
          have zf := HZ.out.frozen
          have uf := HY.out.frozen
          go_wp2_with fail
          refine (CR.out _).mono ?_
          rintro e w6 ⟨rfl, hb6⟩
          replace HA := Lib.hid (HA.out.keep hb6)
          replace HB := Lib.hid (HB.out.keep hb6)
          replace HZ := Lib.hid (HZ.out.keep hb6)
          replace HY := Lib.hid (HY.out.keep hb6)
          replace HW := Lib.hid (HW.out.trans (hb6.mono HW.out.size))
          replace HG := Lib.hid ((hb6.block _ (block_lt HG.out)).trans HG.out)
          clear hb6 CR
          clear x0 x1 x2 x3 x4 y0 y1 y2 y3 z0 z1 z2 z3 z4 u0 u1 u2 u3 xf yf zf uf
          obtain ⟨x0, x1, x2, x3, x4⟩ := HA.out.cell
          obtain ⟨y0, y1, y2, y3⟩ := HB.out.cell
          obtain ⟨z0, z1, z2, z3, z4⟩ := HZ.out.cell
          obtain ⟨u0, u1, u2, u3⟩ := HY.out.cell
          have xf := HA.out.frozen
          have yf := HB.out.frozen
          have zf := HZ.out.frozen
          have uf := HY.out.frozen
          go_upto_region 11 with fail
          obtain ⟨e1, e2, e3⟩ := HR.out
          subst e1 e2 e3
          have HE := Lib.hid (both_after HZ.out HY.out (by omega) HW.out (by omega) (by omega) (own_nilF _ (w.heap.size + 1 + 1 + 1 + 1 + 1)) (by omega) (by omega) ⟨las, dst, srv, rpt, cel⟩ ⟨bc, -1, true, false⟩)
          go_region
          all_goals
            go_wp2
            refine bodyPost_ret (results_agb rfl _ _ _ _ ⟨las, dst, srv, rpt, cel⟩ ⟨bc, -1, true, false⟩ (.slice none 0 0) rfl ?_ rfl ?_ rfl) rfl ⟨(.slice none 0 0), rfl, ?_, ?_⟩
            all_goals first | with_reducible exact HE.out.1.1 | with_reducible exact HE.out.1.2.1 | with_reducible exact HE.out.1.2.2.1 | with_reducible exact HE.out.1.2.2.2 | with_reducible exact HE.out.2.1 | with_reducible exact HE.out.2.2.1 | with_reducible exact HE.out.2.2.2.1 | with_reducible exact HE.out.2.2.2.2
      · have h2' : (bd != -1) = true := by simpa using h2
        have HR0 := Lib.hid (HRT.out (by rw [ends_is]; simp [h1, h2]))
        clear HRT HRY HRN HNB CR0 CF HG0 HG h1 h2
        rcases bs with _ | _
        · rcases srv with _ | _
          · have HR : Hid (R = ⟨las, -1, false, 1, bd⟩ ∧ Q = ⟨bd, -1, false, false⟩ ∧ L = [repF ⟨las, -1, false, 1, bd⟩ r]) := Lib.hid HR0.out
            clear HR0
            obtain ⟨x0, x1, x2, x3, x4⟩ := HA.out.cell
            obtain ⟨y0, y1, y2, y3⟩ := HB.out.cell
            obtain ⟨z0, z1, z2, z3, z4⟩ := HZ.out.cell
            obtain ⟨u0, u1, u2, u3⟩ := HY.out.cell
            have xf := HA.out.frozen
            have yf := HB.out.frozen
            have zf := HZ.out.frozen
            have uf := HY.out.frozen
            go_upto_region 5 with fail
            have hg := one_grown w5 (w.heap.size + 1 + 1) 0 (.int .i64 bd)
            have hnM := (show BodAt (w5.setCell ⟨w.heap.size + 1 + 1, 0, none⟩ (.int .i64 bd)) (w.heap.size + 1 + 1) ⟨bd, bd, false, false⟩ from HB.out.put0)
            replace HB := Lib.hid hnM
            replace HA := Lib.hid (HA.out.grown hg (fun e => by injection e with e; omega))
            replace HZ := Lib.hid (HZ.out.grown hg (fun e => by injection e with e; omega))
            replace HY := Lib.hid (BodAt.grown HY.out hg (fun e => by injection e with e; omega))
            replace HW := Lib.hid (below_put (g := w.heap.size + 1 + 1) (i := 0) (v := .int .i64 bd) HW.out (by omega))
            generalize w5.setCell ⟨w.heap.size + 1 + 1, 0, none⟩ (.int .i64 bd) = w6 at *
            clear hg hnM
            have hg := one_grown w6 (w.heap.size + 1 + 1) 1 (.int .i64 (-1))
            have hnM := (show BodAt (w6.setCell ⟨w.heap.size + 1 + 1, 1, none⟩ (.int .i64 (-1))) (w.heap.size + 1 + 1) ⟨bd, -1, false, false⟩ from HB.out.put1)
            replace HB := Lib.hid hnM
            replace HA := Lib.hid (HA.out.grown hg (fun e => by injection e with e; omega))
            replace HZ := Lib.hid (HZ.out.grown hg (fun e => by injection e with e; omega))
            replace HY := Lib.hid (BodAt.grown HY.out hg (fun e => by injection e with e; omega))
            replace HW := Lib.hid (below_put (g := w.heap.size + 1 + 1) (i := 1) (v := .int .i64 (-1)) HW.out (by omega))
            generalize w6.setCell ⟨w.heap.size + 1 + 1, 1, none⟩ (.int .i64 (-1)) = w7 at *
            clear hg hnM
            clear x0 x1 x2 x3 x4 y0 y1 y2 y3 z0 z1 z2 z3 z4 u0 u1 u2 u3 xf yf zf uf
            obtain ⟨x0, x1, x2, x3, x4⟩ := HA.out.cell
            obtain ⟨y0, y1, y2, y3⟩ := HB.out.cell
            obtain ⟨z0, z1, z2, z3, z4⟩ := HZ.out.cell
            obtain ⟨u0, u1, u2, u3⟩ := HY.out.cell
            have xf := HA.out.frozen
            have yf := HB.out.frozen
            have zf := HZ.out.frozen
            have uf := HY.out.frozen
            go_upto_region 6 with fail
            have hg := one_grown w7 (w.heap.size + 1) 1 (.int .i64 (-1))
            have hnM := (show AgAt (w7.setCell ⟨w.heap.size + 1, 1, none⟩ (.int .i64 (-1))) (w.heap.size + 1) ⟨las, -1, false, rpt, cel⟩ from HA.out.put1)
            replace HA := Lib.hid hnM
            replace HB := Lib.hid (BodAt.grown HB.out hg (fun e => by injection e with e; omega))
            replace HZ := Lib.hid (HZ.out.grown hg (fun e => by injection e with e; omega))
            replace HY := Lib.hid (BodAt.grown HY.out hg (fun e => by injection e with e; omega))
            replace HW := Lib.hid (below_put (g := w.heap.size + 1) (i := 1) (v := .int .i64 (-1)) HW.out (by omega))
            generalize w7.setCell ⟨w.heap.size + 1, 1, none⟩ (.int .i64 (-1)) = w8 at *
            clear hg hnM
            clear x0 x1 x2 x3 x4 y0 y1 y2 y3 z0 z1 z2 z3 z4 u0 u1 u2 u3 xf yf zf uf
            obtain ⟨x0, x1, x2, x3, x4⟩ := HA.out.cell
            obtain ⟨y0, y1, y2, y3⟩ := HB.out.cell
            obtain ⟨z0, z1, z2, z3, z4⟩ := HZ.out.cell
            obtain ⟨u0, u1, u2, u3⟩ := HY.out.cell
            have xf := HA.out.frozen
            have yf := HB.out.frozen
            have zf := HZ.out.frozen
            have uf := HY.out.frozen
            go_upto_region 7 with fail
            have hg := one_grown w8 (w.heap.size + 1 + 1) 2 (.bool false)
            have hnM := (show BodAt (w8.setCell ⟨w.heap.size + 1 + 1, 2, none⟩ (.bool false)) (w.heap.size + 1 + 1) ⟨bd, -1, false, false⟩ from HB.out.put2)
            replace HB := Lib.hid hnM
            replace HA := Lib.hid (HA.out.grown hg (fun e => by injection e with e; omega))
            replace HZ := Lib.hid (HZ.out.grown hg (fun e => by injection e with e; omega))
            replace HY := Lib.hid (BodAt.grown HY.out hg (fun e => by injection e with e; omega))
            replace HW := Lib.hid (below_put (g := w.heap.size + 1 + 1) (i := 2) (v := .bool false) HW.out (by omega))
            generalize w8.setCell ⟨w.heap.size + 1 + 1, 2, none⟩ (.bool false) = w9 at *
            clear hg hnM
            clear x0 x1 x2 x3 x4 y0 y1 y2 y3 z0 z1 z2 z3 z4 u0 u1 u2 u3 xf yf zf uf
            obtain ⟨x0, x1, x2, x3, x4⟩ := HA.out.cell
            obtain ⟨y0, y1, y2, y3⟩ := HB.out.cell
            obtain ⟨z0, z1, z2, z3, z4⟩ := HZ.out.cell
            obtain ⟨u0, u1, u2, u3⟩ := HY.out.cell
            have xf := HA.out.frozen
            have yf := HB.out.frozen
            have zf := HZ.out.frozen
            have uf := HY.out.frozen
            go_region
            go_upto_region 8 with fail
            have hnA : AgAt ((w9.setCell ⟨w.heap.size + 1, 3, none⟩ (.int .i64 1)).setCell ⟨w.heap.size + 1, 4, none⟩ (.int .i64 bd)).drew (w.heap.size + 1) ⟨las, -1, false, 1, bd⟩ := (HA.out.put34v).keep (Below.refl _ _).drew
            replace HA := Lib.hid hnA
            replace HB := Lib.hid ((BodAt.grown (BodAt.grown HB.out (one_grown _ (w.heap.size + 1) 3 (.int .i64 1)) (fun e => by injection e with e; omega)) (one_grown _ (w.heap.size + 1) 4 (.int .i64 bd)) (fun e => by injection e with e; omega)).keep (Below.refl _ _).drew)
            replace HZ := Lib.hid (((HZ.out.grown (one_grown _ (w.heap.size + 1) 3 (.int .i64 1)) (fun e => by injection e with e; omega)).grown (one_grown _ (w.heap.size + 1) 4 (.int .i64 bd)) (fun e => by injection e with e; omega)).keep (Below.refl _ _).drew)
            replace HY := Lib.hid ((BodAt.grown (BodAt.grown HY.out (one_grown _ (w.heap.size + 1) 3 (.int .i64 1)) (fun e => by injection e with e; omega)) (one_grown _ (w.heap.size + 1) 4 (.int .i64 bd)) (fun e => by injection e with e; omega)).keep (Below.refl _ _).drew)
            replace HW := Lib.hid (below_put (g := w.heap.size + 1) (i := 4) (v := .int .i64 bd) (below_put (g := w.heap.size + 1) (i := 3) (v := .int .i64 1) HW.out (by omega)) (by omega)).drew
            generalize ((w9.setCell ⟨w.heap.size + 1, 3, none⟩ (.int .i64 1)).setCell ⟨w.heap.size + 1, 4, none⟩ (.int .i64 bd)).drew = w10 at *
            clear hnA
            clear x0 x1 x2 x3 x4 y0 y1 y2 y3 z0 z1 z2 z3 z4 u0 u1 u2 u3 xf yf zf uf
            obtain ⟨x0, x1, x2, x3, x4⟩ := HA.out.cell
            obtain ⟨y0, y1, y2, y3⟩ := HB.out.cell
            obtain ⟨z0, z1, z2, z3, z4⟩ := HZ.out.cell
            obtain ⟨u0, u1, u2, u3⟩ := HY.out.cell
            have xf := HA.out.frozen
            have yf := HB.out.frozen
            have zf := HZ.out.frozen
            have uf := HY.out.frozen
            have hwy := block_lt HY.out
            have HSK : Hid (∀ W, AgAt W (w.heap.size + 1) ⟨las, -1, false, 1, bd⟩ → BodAt W (w.heap.size + 1 + 1) ⟨bd, -1, false, false⟩ → (W.cell? ⟨w.heap.size + 1, 0, none⟩ = some (.int .u64 las) ∧ W.cell? ⟨w.heap.size + 1, 1, none⟩ = some (.int .i64 (-1)) ∧ W.cell? ⟨w.heap.size + 1, 2, none⟩ = some (.bool false) ∧ W.cell? ⟨w.heap.size + 1, 3, none⟩ = some (.int .i64 1) ∧ W.cell? ⟨w.heap.size + 1, 4, none⟩ = some (.int .i64 bd)) ∧ W.cell? ⟨w.heap.size + 1 + 1, 0, none⟩ = some (.int .i64 bd) ∧ W.cell? ⟨w.heap.size + 1 + 1, 1, none⟩ = some (.int .i64 (-1)) ∧ W.cell? ⟨w.heap.size + 1 + 1, 2, none⟩ = some (.bool false) ∧ W.cell? ⟨w.heap.size + 1 + 1, 3, none⟩ = some (.bool false)) := Lib.hid (fun W ha hb => ⟨ha.cell, hb.cell⟩)
            go_region_held3 (fun W => (W.cell? ⟨w.heap.size + 1, 0, none⟩ = some (.int .u64 las) ∧ W.cell? ⟨w.heap.size + 1, 1, none⟩ = some (.int .i64 (-1)) ∧ W.cell? ⟨w.heap.size + 1, 2, none⟩ = some (.bool false) ∧ W.cell? ⟨w.heap.size + 1, 3, none⟩ = some (.int .i64 1) ∧ W.cell? ⟨w.heap.size + 1, 4, none⟩ = some (.int .i64 bd)) ∧ W.cell? ⟨w.heap.size + 1 + 1, 0, none⟩ = some (.int .i64 bd) ∧ W.cell? ⟨w.heap.size + 1 + 1, 1, none⟩ = some (.int .i64 (-1)) ∧ W.cell? ⟨w.heap.size + 1 + 1, 2, none⟩ = some (.bool false) ∧ W.cell? ⟨w.heap.size + 1 + 1, 3, none⟩ = some (.bool false)) ((refine HSK.out _ ?_ ?_) <;> (repeat (first | (with_reducible exact HA.out) | (with_reducible exact HB.out) | (with_reducible exact HA9.out) | (with_reducible exact HB9.out) | (with_reducible refine AgAt.drewA ?_) | (with_reducible refine BodAt.drewB ?_) | (refine AgAt.far ?_ (by omega)) | (refine BodAt.far ?_ (by omega))))) (first | (go_at_call 35; refine (HC.out _).mono ?_; rintro e w11 ⟨v, rfl, hf, hb9⟩; have hb : Below w10.heap.size w10 w11 := (by first | exact hb9 | exact (Below.refl _ _).drew.trans hb9); obtain ⟨A, c, rfl, hc9⟩ := own_form hf; have HF := Lib.hid (show OwnFr w11 w10.heap.size (.slice A 1 c) [repF ⟨las, -1, false, 1, bd⟩ r] from hf); have HA9 := Lib.hid (HA.out.keep hb); have HB9 := Lib.hid (HB.out.keep hb); have HZ9 := Lib.hid (HZ.out.keep hb); have HY9 := Lib.hid (HY.out.keep hb); have HW9 := Lib.hid (HW.out.trans (hb.mono HW.out.size)); obtain ⟨zz0, zz1, zz2, zz3, zz4⟩ := HZ9.out.cell; obtain ⟨uu0, uu1, uu2, uu3⟩ := HY9.out.cell; have zzf := HZ9.out.frozen; have uuf := HY9.out.frozen; clear hb hb9 hf hc9))
            all_goals
              obtain ⟨e1, e2, e3⟩ := HR.out
              subst e1 e2 e3
              go_wp2
              have HE := Lib.hid (both_plain HZ9.out HY9.out (by omega) HW9.out (by omega) (by omega) HF.out (by omega) (by omega) ⟨las, -1, false, 1, bd⟩ ⟨bd, -1, false, false⟩)
              refine bodyPost_ret (results_agb rfl _ _ _ _ ⟨las, -1, false, 1, bd⟩ ⟨bd, -1, false, false⟩ (.slice A 1 c) rfl ?_ rfl ?_ rfl) rfl ⟨.slice A 1 c, rfl, ?_, ?_⟩
              all_goals first | with_reducible exact HE.out.1.1 | with_reducible exact HE.out.1.2.1 | with_reducible exact HE.out.1.2.2.1 | with_reducible exact HE.out.1.2.2.2 | with_reducible exact HE.out.2.1 | with_reducible exact HE.out.2.2.1 | with_reducible exact HE.out.2.2.2.1 | with_reducible exact HE.out.2.2.2.2
          · have HR : Hid (R = ⟨las, -1, true, 1, bd⟩ ∧ Q = ⟨bd, -1, true, false⟩ ∧ L = [repF ⟨las, -1, true, 1, bd⟩ r]) := Lib.hid HR0.out
            clear HR0
            obtain ⟨x0, x1, x2, x3, x4⟩ := HA.out.cell
            obtain ⟨y0, y1, y2, y3⟩ := HB.out.cell
            obtain ⟨z0, z1, z2, z3, z4⟩ := HZ.out.cell
            obtain ⟨u0, u1, u2, u3⟩ := HY.out.cell
            have xf := HA.out.frozen
            have yf := HB.out.frozen
            have zf := HZ.out.frozen
            have uf := HY.out.frozen
            go_upto_region 5 with fail
            have hg := one_grown w5 (w.heap.size + 1 + 1) 0 (.int .i64 bd)
            have hnM := (show BodAt (w5.setCell ⟨w.heap.size + 1 + 1, 0, none⟩ (.int .i64 bd)) (w.heap.size + 1 + 1) ⟨bd, bd, false, false⟩ from HB.out.put0)
            replace HB := Lib.hid hnM
            replace HA := Lib.hid (HA.out.grown hg (fun e => by injection e with e; omega))
            replace HZ := Lib.hid (HZ.out.grown hg (fun e => by injection e with e; omega))
            replace HY := Lib.hid (BodAt.grown HY.out hg (fun e => by injection e with e; omega))
            replace HW := Lib.hid (below_put (g := w.heap.size + 1 + 1) (i := 0) (v := .int .i64 bd) HW.out (by omega))
            generalize w5.setCell ⟨w.heap.size + 1 + 1, 0, none⟩ (.int .i64 bd) = w6 at *
            clear hg hnM
            have hg := one_grown w6 (w.heap.size + 1 + 1) 1 (.int .i64 (-1))
            have hnM := (show BodAt (w6.setCell ⟨w.heap.size + 1 + 1, 1, none⟩ (.int .i64 (-1))) (w.heap.size + 1 + 1) ⟨bd, -1, false, false⟩ from HB.out.put1)
            replace HB := Lib.hid hnM
            replace HA := Lib.hid (HA.out.grown hg (fun e => by injection e with e; omega))
            replace HZ := Lib.hid (HZ.out.grown hg (fun e => by injection e with e; omega))
            replace HY := Lib.hid (BodAt.grown HY.out hg (fun e => by injection e with e; omega))
            replace HW := Lib.hid (below_put (g := w.heap.size + 1 + 1) (i := 1) (v := .int .i64 (-1)) HW.out (by omega))
            generalize w6.setCell ⟨w.heap.size + 1 + 1, 1, none⟩ (.int .i64 (-1)) = w7 at *
            clear hg hnM
            clear x0 x1 x2 x3 x4 y0 y1 y2 y3 z0 z1 z2 z3 z4 u0 u1 u2 u3 xf yf zf uf
            obtain ⟨x0, x1, x2, x3, x4⟩ := HA.out.cell
            obtain ⟨y0, y1, y2, y3⟩ := HB.out.cell
            obtain ⟨z0, z1, z2, z3, z4⟩ := HZ.out.cell
            obtain ⟨u0, u1, u2, u3⟩ := HY.out.cell
            have xf := HA.out.frozen
            have yf := HB.out.frozen
            have zf := HZ.out.frozen
            have uf := HY.out.frozen
            go_upto_region 6 with fail
            have hg := one_grown w7 (w.heap.size + 1) 1 (.int .i64 (-1))
            have hnM := (show AgAt (w7.setCell ⟨w.heap.size + 1, 1, none⟩ (.int .i64 (-1))) (w.heap.size + 1) ⟨las, -1, true, rpt, cel⟩ from HA.out.put1)
            replace HA := Lib.hid hnM
            replace HB := Lib.hid (BodAt.grown HB.out hg (fun e => by injection e with e; omega))
            replace HZ := Lib.hid (HZ.out.grown hg (fun e => by injection e with e; omega))
            replace HY := Lib.hid (BodAt.grown HY.out hg (fun e => by injection e with e; omega))
            replace HW := Lib.hid (below_put (g := w.heap.size + 1) (i := 1) (v := .int .i64 (-1)) HW.out (by omega))
            generalize w7.setCell ⟨w.heap.size + 1, 1, none⟩ (.int .i64 (-1)) = w8 at *
            clear hg hnM
            clear x0 x1 x2 x3 x4 y0 y1 y2 y3 z0 z1 z2 z3 z4 u0 u1 u2 u3 xf yf zf uf
            obtain ⟨x0, x1, x2, x3, x4⟩ := HA.out.cell
            obtain ⟨y0, y1, y2, y3⟩ := HB.out.cell
            obtain ⟨z0, z1, z2, z3, z4⟩ := HZ.out.cell
            obtain ⟨u0, u1, u2, u3⟩ := HY.out.cell
            have xf := HA.out.frozen
            have yf := HB.out.frozen
            have zf := HZ.out.frozen
            have uf := HY.out.frozen
            go_upto_region 7 with fail
            have hg := one_grown w8 (w.heap.size + 1 + 1) 2 (.bool true)
            have hnM := (show BodAt (w8.setCell ⟨w.heap.size + 1 + 1, 2, none⟩ (.bool true)) (w.heap.size + 1 + 1) ⟨bd, -1, true, false⟩ from HB.out.put2)
            replace HB := Lib.hid hnM
            replace HA := Lib.hid (HA.out.grown hg (fun e => by injection e with e; omega))
            replace HZ := Lib.hid (HZ.out.grown hg (fun e => by injection e with e; omega))
            replace HY := Lib.hid (BodAt.grown HY.out hg (fun e => by injection e with e; omega))
            replace HW := Lib.hid (below_put (g := w.heap.size + 1 + 1) (i := 2) (v := .bool true) HW.out (by omega))
            generalize w8.setCell ⟨w.heap.size + 1 + 1, 2, none⟩ (.bool true) = w9 at *
            clear hg hnM
            clear x0 x1 x2 x3 x4 y0 y1 y2 y3 z0 z1 z2 z3 z4 u0 u1 u2 u3 xf yf zf uf
            obtain ⟨x0, x1, x2, x3, x4⟩ := HA.out.cell
            obtain ⟨y0, y1, y2, y3⟩ := HB.out.cell
            obtain ⟨z0, z1, z2, z3, z4⟩ := HZ.out.cell
            obtain ⟨u0, u1, u2, u3⟩ := HY.out.cell
            have xf := HA.out.frozen
            have yf := HB.out.frozen
            have zf := HZ.out.frozen
            have uf := HY.out.frozen
            go_region
            go_upto_region 8 with fail
            have hnA : AgAt ((w9.setCell ⟨w.heap.size + 1, 3, none⟩ (.int .i64 1)).setCell ⟨w.heap.size + 1, 4, none⟩ (.int .i64 bd)).drew (w.heap.size + 1) ⟨las, -1, true, 1, bd⟩ := (HA.out.put34v).keep (Below.refl _ _).drew
            replace HA := Lib.hid hnA
            replace HB := Lib.hid ((BodAt.grown (BodAt.grown HB.out (one_grown _ (w.heap.size + 1) 3 (.int .i64 1)) (fun e => by injection e with e; omega)) (one_grown _ (w.heap.size + 1) 4 (.int .i64 bd)) (fun e => by injection e with e; omega)).keep (Below.refl _ _).drew)
            replace HZ := Lib.hid (((HZ.out.grown (one_grown _ (w.heap.size + 1) 3 (.int .i64 1)) (fun e => by injection e with e; omega)).grown (one_grown _ (w.heap.size + 1) 4 (.int .i64 bd)) (fun e => by injection e with e; omega)).keep (Below.refl _ _).drew)
            replace HY := Lib.hid ((BodAt.grown (BodAt.grown HY.out (one_grown _ (w.heap.size + 1) 3 (.int .i64 1)) (fun e => by injection e with e; omega)) (one_grown _ (w.heap.size + 1) 4 (.int .i64 bd)) (fun e => by injection e with e; omega)).keep (Below.refl _ _).drew)
            replace HW := Lib.hid (below_put (g := w.heap.size + 1) (i := 4) (v := .int .i64 bd) (below_put (g := w.heap.size + 1) (i := 3) (v := .int .i64 1) HW.out (by omega)) (by omega)).drew
            generalize ((w9.setCell ⟨w.heap.size + 1, 3, none⟩ (.int .i64 1)).setCell ⟨w.heap.size + 1, 4, none⟩ (.int .i64 bd)).drew = w10 at *
            clear hnA
            clear x0 x1 x2 x3 x4 y0 y1 y2 y3 z0 z1 z2 z3 z4 u0 u1 u2 u3 xf yf zf uf
            obtain ⟨x0, x1, x2, x3, x4⟩ := HA.out.cell
            obtain ⟨y0, y1, y2, y3⟩ := HB.out.cell
            obtain ⟨z0, z1, z2, z3, z4⟩ := HZ.out.cell
            obtain ⟨u0, u1, u2, u3⟩ := HY.out.cell
            have xf := HA.out.frozen
            have yf := HB.out.frozen
            have zf := HZ.out.frozen
            have uf := HY.out.frozen
            have hwy := block_lt HY.out
            have HSK : Hid (∀ W, AgAt W (w.heap.size + 1) ⟨las, -1, true, 1, bd⟩ → BodAt W (w.heap.size + 1 + 1) ⟨bd, -1, true, false⟩ → (W.cell? ⟨w.heap.size + 1, 0, none⟩ = some (.int .u64 las) ∧ W.cell? ⟨w.heap.size + 1, 1, none⟩ = some (.int .i64 (-1)) ∧ W.cell? ⟨w.heap.size + 1, 2, none⟩ = some (.bool true) ∧ W.cell? ⟨w.heap.size + 1, 3, none⟩ = some (.int .i64 1) ∧ W.cell? ⟨w.heap.size + 1, 4, none⟩ = some (.int .i64 bd)) ∧ W.cell? ⟨w.heap.size + 1 + 1, 0, none⟩ = some (.int .i64 bd) ∧ W.cell? ⟨w.heap.size + 1 + 1, 1, none⟩ = some (.int .i64 (-1)) ∧ W.cell? ⟨w.heap.size + 1 + 1, 2, none⟩ = some (.bool true) ∧ W.cell? ⟨w.heap.size + 1 + 1, 3, none⟩ = some (.bool false)) := Lib.hid (fun W ha hb => ⟨ha.cell, hb.cell⟩)
            go_region_held3 (fun W => (W.cell? ⟨w.heap.size + 1, 0, none⟩ = some (.int .u64 las) ∧ W.cell? ⟨w.heap.size + 1, 1, none⟩ = some (.int .i64 (-1)) ∧ W.cell? ⟨w.heap.size + 1, 2, none⟩ = some (.bool true) ∧ W.cell? ⟨w.heap.size + 1, 3, none⟩ = some (.int .i64 1) ∧ W.cell? ⟨w.heap.size + 1, 4, none⟩ = some (.int .i64 bd)) ∧ W.cell? ⟨w.heap.size + 1 + 1, 0, none⟩ = some (.int .i64 bd) ∧ W.cell? ⟨w.heap.size + 1 + 1, 1, none⟩ = some (.int .i64 (-1)) ∧ W.cell? ⟨w.heap.size + 1 + 1, 2, none⟩ = some (.bool true) ∧ W.cell? ⟨w.heap.size + 1 + 1, 3, none⟩ = some (.bool false)) ((refine HSK.out _ ?_ ?_) <;> (repeat (first | (with_reducible exact HA.out) | (with_reducible exact HB.out) | (with_reducible exact HA9.out) | (with_reducible exact HB9.out) | (with_reducible refine AgAt.drewA ?_) | (with_reducible refine BodAt.drewB ?_) | (refine AgAt.far ?_ (by omega)) | (refine BodAt.far ?_ (by omega))))) (first | (go_at_call 35; refine (HC.out _).mono ?_; rintro e w11 ⟨v, rfl, hf, hb9⟩; have hb : Below w10.heap.size w10 w11 := (by first | exact hb9 | exact (Below.refl _ _).drew.trans hb9); obtain ⟨A, c, rfl, hc9⟩ := own_form hf; have HF := Lib.hid (show OwnFr w11 w10.heap.size (.slice A 1 c) [repF ⟨las, -1, true, 1, bd⟩ r] from hf); have HA9 := Lib.hid (HA.out.keep hb); have HB9 := Lib.hid (HB.out.keep hb); have HZ9 := Lib.hid (HZ.out.keep hb); have HY9 := Lib.hid (HY.out.keep hb); have HW9 := Lib.hid (HW.out.trans (hb.mono HW.out.size)); obtain ⟨zz0, zz1, zz2, zz3, zz4⟩ := HZ9.out.cell; obtain ⟨uu0, uu1, uu2, uu3⟩ := HY9.out.cell; have zzf := HZ9.out.frozen; have uuf := HY9.out.frozen; clear hb hb9 hf hc9))
            all_goals
              obtain ⟨e1, e2, e3⟩ := HR.out
              subst e1 e2 e3
              go_wp2
              have HE := Lib.hid (both_plain HZ9.out HY9.out (by omega) HW9.out (by omega) (by omega) HF.out (by omega) (by omega) ⟨las, -1, true, 1, bd⟩ ⟨bd, -1, true, false⟩)
              refine bodyPost_ret (results_agb rfl _ _ _ _ ⟨las, -1, true, 1, bd⟩ ⟨bd, -1, true, false⟩ (.slice A 1 c) rfl ?_ rfl ?_ rfl) rfl ⟨.slice A 1 c, rfl, ?_, ?_⟩
              all_goals first | with_reducible exact HE.out.1.1 | with_reducible exact HE.out.1.2.1 | with_reducible exact HE.out.1.2.2.1 | with_reducible exact HE.out.1.2.2.2 | with_reducible exact HE.out.2.1 | with_reducible exact HE.out.2.2.1 | with_reducible exact HE.out.2.2.2.1 | with_reducible exact HE.out.2.2.2.2
        · have HR : Hid (R = ⟨las, -1, srv, 1, bd⟩ ∧ Q = ⟨bd, -1, true, false⟩ ∧ L = [repF ⟨las, -1, srv, 1, bd⟩ r]) := Lib.hid HR0.out
          clear HR0
          obtain ⟨x0, x1, x2, x3, x4⟩ := HA.out.cell
          obtain ⟨y0, y1, y2, y3⟩ := HB.out.cell
          obtain ⟨z0, z1, z2, z3, z4⟩ := HZ.out.cell
          obtain ⟨u0, u1, u2, u3⟩ := HY.out.cell
          have xf := HA.out.frozen
          have yf := HB.out.frozen
          have zf := HZ.out.frozen
          have uf := HY.out.frozen
          go_upto_region 5 with fail
          have hg := one_grown w5 (w.heap.size + 1 + 1) 0 (.int .i64 bd)
          have hnM := (show BodAt (w5.setCell ⟨w.heap.size + 1 + 1, 0, none⟩ (.int .i64 bd)) (w.heap.size + 1 + 1) ⟨bd, bd, true, false⟩ from HB.out.put0)
          replace HB := Lib.hid hnM
          replace HA := Lib.hid (HA.out.grown hg (fun e => by injection e with e; omega))
          replace HZ := Lib.hid (HZ.out.grown hg (fun e => by injection e with e; omega))
          replace HY := Lib.hid (BodAt.grown HY.out hg (fun e => by injection e with e; omega))
          replace HW := Lib.hid (below_put (g := w.heap.size + 1 + 1) (i := 0) (v := .int .i64 bd) HW.out (by omega))
          generalize w5.setCell ⟨w.heap.size + 1 + 1, 0, none⟩ (.int .i64 bd) = w6 at *
          clear hg hnM
          have hg := one_grown w6 (w.heap.size + 1 + 1) 1 (.int .i64 (-1))
          have hnM := (show BodAt (w6.setCell ⟨w.heap.size + 1 + 1, 1, none⟩ (.int .i64 (-1))) (w.heap.size + 1 + 1) ⟨bd, -1, true, false⟩ from HB.out.put1)
          replace HB := Lib.hid hnM
          replace HA := Lib.hid (HA.out.grown hg (fun e => by injection e with e; omega))
          replace HZ := Lib.hid (HZ.out.grown hg (fun e => by injection e with e; omega))
          replace HY := Lib.hid (BodAt.grown HY.out hg (fun e => by injection e with e; omega))
          replace HW := Lib.hid (below_put (g := w.heap.size + 1 + 1) (i := 1) (v := .int .i64 (-1)) HW.out (by omega))
          generalize w6.setCell ⟨w.heap.size + 1 + 1, 1, none⟩ (.int .i64 (-1)) = w7 at *
          clear hg hnM
          clear x0 x1 x2 x3 x4 y0 y1 y2 y3 z0 z1 z2 z3 z4 u0 u1 u2 u3 xf yf zf uf
          obtain ⟨x0, x1, x2, x3, x4⟩ := HA.out.cell
          obtain ⟨y0, y1, y2, y3⟩ := HB.out.cell
          obtain ⟨z0, z1, z2, z3, z4⟩ := HZ.out.cell
          obtain ⟨u0, u1, u2, u3⟩ := HY.out.cell
          have xf := HA.out.frozen
          have yf := HB.out.frozen
          have zf := HZ.out.frozen
          have uf := HY.out.frozen
          go_upto_region 6 with fail
          have hg := one_grown w7 (w.heap.size + 1) 1 (.int .i64 (-1))
          have hnM := (show AgAt (w7.setCell ⟨w.heap.size + 1, 1, none⟩ (.int .i64 (-1))) (w.heap.size + 1) ⟨las, -1, srv, rpt, cel⟩ from HA.out.put1)
          replace HA := Lib.hid hnM
          replace HB := Lib.hid (BodAt.grown HB.out hg (fun e => by injection e with e; omega))
          replace HZ := Lib.hid (HZ.out.grown hg (fun e => by injection e with e; omega))
          replace HY := Lib.hid (BodAt.grown HY.out hg (fun e => by injection e with e; omega))
          replace HW := Lib.hid (below_put (g := w.heap.size + 1) (i := 1) (v := .int .i64 (-1)) HW.out (by omega))
          generalize w7.setCell ⟨w.heap.size + 1, 1, none⟩ (.int .i64 (-1)) = w8 at *
          clear hg hnM
          clear x0 x1 x2 x3 x4 y0 y1 y2 y3 z0 z1 z2 z3 z4 u0 u1 u2 u3 xf yf zf uf
          obtain ⟨x0, x1, x2, x3, x4⟩ := HA.out.cell
          obtain ⟨y0, y1, y2, y3⟩ := HB.out.cell
          obtain ⟨z0, z1, z2, z3, z4⟩ := HZ.out.cell
          obtain ⟨u0, u1, u2, u3⟩ := HY.out.cell
          have xf := HA.out.frozen
          have yf := HB.out.frozen
          have zf := HZ.out.frozen
          have uf := HY.out.frozen
          go_upto_region 7 with fail
          have hg := one_grown w8 (w.heap.size + 1 + 1) 2 (.bool true)
          have hnM := (show BodAt (w8.setCell ⟨w.heap.size + 1 + 1, 2, none⟩ (.bool true)) (w.heap.size + 1 + 1) ⟨bd, -1, true, false⟩ from HB.out.put2)
          replace HB := Lib.hid hnM
          replace HA := Lib.hid (HA.out.grown hg (fun e => by injection e with e; omega))
          replace HZ := Lib.hid (HZ.out.grown hg (fun e => by injection e with e; omega))
          replace HY := Lib.hid (BodAt.grown HY.out hg (fun e => by injection e with e; omega))
          replace HW := Lib.hid (below_put (g := w.heap.size + 1 + 1) (i := 2) (v := .bool true) HW.out (by omega))
          generalize w8.setCell ⟨w.heap.size + 1 + 1, 2, none⟩ (.bool true) = w9 at *
          clear hg hnM
          clear x0 x1 x2 x3 x4 y0 y1 y2 y3 z0 z1 z2 z3 z4 u0 u1 u2 u3 xf yf zf uf
          obtain ⟨x0, x1, x2, x3, x4⟩ := HA.out.cell
          obtain ⟨y0, y1, y2, y3⟩ := HB.out.cell
          obtain ⟨z0, z1, z2, z3, z4⟩ := HZ.out.cell
          obtain ⟨u0, u1, u2, u3⟩ := HY.out.cell
          have xf := HA.out.frozen
          have yf := HB.out.frozen
          have zf := HZ.out.frozen
          have uf := HY.out.frozen
          go_region
          go_upto_region 8 with fail
          have hnA : AgAt ((w9.setCell ⟨w.heap.size + 1, 3, none⟩ (.int .i64 1)).setCell ⟨w.heap.size + 1, 4, none⟩ (.int .i64 bd)).drew (w.heap.size + 1) ⟨las, -1, srv, 1, bd⟩ := (HA.out.put34v).keep (Below.refl _ _).drew
          replace HA := Lib.hid hnA
          replace HB := Lib.hid ((BodAt.grown (BodAt.grown HB.out (one_grown _ (w.heap.size + 1) 3 (.int .i64 1)) (fun e => by injection e with e; omega)) (one_grown _ (w.heap.size + 1) 4 (.int .i64 bd)) (fun e => by injection e with e; omega)).keep (Below.refl _ _).drew)
          replace HZ := Lib.hid (((HZ.out.grown (one_grown _ (w.heap.size + 1) 3 (.int .i64 1)) (fun e => by injection e with e; omega)).grown (one_grown _ (w.heap.size + 1) 4 (.int .i64 bd)) (fun e => by injection e with e; omega)).keep (Below.refl _ _).drew)
          replace HY := Lib.hid ((BodAt.grown (BodAt.grown HY.out (one_grown _ (w.heap.size + 1) 3 (.int .i64 1)) (fun e => by injection e with e; omega)) (one_grown _ (w.heap.size + 1) 4 (.int .i64 bd)) (fun e => by injection e with e; omega)).keep (Below.refl _ _).drew)
          replace HW := Lib.hid (below_put (g := w.heap.size + 1) (i := 4) (v := .int .i64 bd) (below_put (g := w.heap.size + 1) (i := 3) (v := .int .i64 1) HW.out (by omega)) (by omega)).drew
          generalize ((w9.setCell ⟨w.heap.size + 1, 3, none⟩ (.int .i64 1)).setCell ⟨w.heap.size + 1, 4, none⟩ (.int .i64 bd)).drew = w10 at *
          clear hnA
          clear x0 x1 x2 x3 x4 y0 y1 y2 y3 z0 z1 z2 z3 z4 u0 u1 u2 u3 xf yf zf uf
          obtain ⟨x0, x1, x2, x3, x4⟩ := HA.out.cell
          obtain ⟨y0, y1, y2, y3⟩ := HB.out.cell
          obtain ⟨z0, z1, z2, z3, z4⟩ := HZ.out.cell
          obtain ⟨u0, u1, u2, u3⟩ := HY.out.cell
          have xf := HA.out.frozen
          have yf := HB.out.frozen
          have zf := HZ.out.frozen
          have uf := HY.out.frozen
          have hwy := block_lt HY.out
          have HSK : Hid (∀ W, AgAt W (w.heap.size + 1) ⟨las, -1, srv, 1, bd⟩ → BodAt W (w.heap.size + 1 + 1) ⟨bd, -1, true, false⟩ → (W.cell? ⟨w.heap.size + 1, 0, none⟩ = some (.int .u64 las) ∧ W.cell? ⟨w.heap.size + 1, 1, none⟩ = some (.int .i64 (-1)) ∧ W.cell? ⟨w.heap.size + 1, 2, none⟩ = some (.bool srv) ∧ W.cell? ⟨w.heap.size + 1, 3, none⟩ = some (.int .i64 1) ∧ W.cell? ⟨w.heap.size + 1, 4, none⟩ = some (.int .i64 bd)) ∧ W.cell? ⟨w.heap.size + 1 + 1, 0, none⟩ = some (.int .i64 bd) ∧ W.cell? ⟨w.heap.size + 1 + 1, 1, none⟩ = some (.int .i64 (-1)) ∧ W.cell? ⟨w.heap.size + 1 + 1, 2, none⟩ = some (.bool true) ∧ W.cell? ⟨w.heap.size + 1 + 1, 3, none⟩ = some (.bool false)) := Lib.hid (fun W ha hb => ⟨ha.cell, hb.cell⟩)
          go_region_held3 (fun W => (W.cell? ⟨w.heap.size + 1, 0, none⟩ = some (.int .u64 las) ∧ W.cell? ⟨w.heap.size + 1, 1, none⟩ = some (.int .i64 (-1)) ∧ W.cell? ⟨w.heap.size + 1, 2, none⟩ = some (.bool srv) ∧ W.cell? ⟨w.heap.size + 1, 3, none⟩ = some (.int .i64 1) ∧ W.cell? ⟨w.heap.size + 1, 4, none⟩ = some (.int .i64 bd)) ∧ W.cell? ⟨w.heap.size + 1 + 1, 0, none⟩ = some (.int .i64 bd) ∧ W.cell? ⟨w.heap.size + 1 + 1, 1, none⟩ = some (.int .i64 (-1)) ∧ W.cell? ⟨w.heap.size + 1 + 1, 2, none⟩ = some (.bool true) ∧ W.cell? ⟨w.heap.size + 1 + 1, 3, none⟩ = some (.bool false)) ((refine HSK.out _ ?_ ?_) <;> (repeat (first | (with_reducible exact HA.out) | (with_reducible exact HB.out) | (with_reducible exact HA9.out) | (with_reducible exact HB9.out) | (with_reducible refine AgAt.drewA ?_) | (with_reducible refine BodAt.drewB ?_) | (refine AgAt.far ?_ (by omega)) | (refine BodAt.far ?_ (by omega))))) (first | (go_at_call 35; refine (HC.out _).mono ?_; rintro e w11 ⟨v, rfl, hf, hb9⟩; have hb : Below w10.heap.size w10 w11 := (by first | exact hb9 | exact (Below.refl _ _).drew.trans hb9); obtain ⟨A, c, rfl, hc9⟩ := own_form hf; have HF := Lib.hid (show OwnFr w11 w10.heap.size (.slice A 1 c) [repF ⟨las, -1, srv, 1, bd⟩ r] from hf); have HA9 := Lib.hid (HA.out.keep hb); have HB9 := Lib.hid (HB.out.keep hb); have HZ9 := Lib.hid (HZ.out.keep hb); have HY9 := Lib.hid (HY.out.keep hb); have HW9 := Lib.hid (HW.out.trans (hb.mono HW.out.size)); obtain ⟨zz0, zz1, zz2, zz3, zz4⟩ := HZ9.out.cell; obtain ⟨uu0, uu1, uu2, uu3⟩ := HY9.out.cell; have zzf := HZ9.out.frozen; have uuf := HY9.out.frozen; clear hb hb9 hf hc9))
          all_goals
            obtain ⟨e1, e2, e3⟩ := HR.out
            subst e1 e2 e3
            go_wp2
            have HE := Lib.hid (both_plain HZ9.out HY9.out (by omega) HW9.out (by omega) (by omega) HF.out (by omega) (by omega) ⟨las, -1, srv, 1, bd⟩ ⟨bd, -1, true, false⟩)
            refine bodyPost_ret (results_agb rfl _ _ _ _ ⟨las, -1, srv, 1, bd⟩ ⟨bd, -1, true, false⟩ (.slice A 1 c) rfl ?_ rfl ?_ rfl) rfl ⟨.slice A 1 c, rfl, ?_, ?_⟩
            all_goals first | with_reducible exact HE.out.1.1 | with_reducible exact HE.out.1.2.1 | with_reducible exact HE.out.1.2.2.1 | with_reducible exact HE.out.1.2.2.2 | with_reducible exact HE.out.2.1 | with_reducible exact HE.out.2.2.1 | with_reducible exact HE.out.2.2.2.1 | with_reducible exact HE.out.2.2.2.2
    · have HR := Lib.hid (HRN.out (HNB.out (.inr rfl)).1 (HNB.out (.inr rfl)).2)
      clear HRT HRY HRN HNB HC CR0 CF HG0 h1
      obtain ⟨x0, x1, x2, x3, x4⟩ := HA.out.cell
      obtain ⟨y0, y1, y2, y3⟩ := HB.out.cell
      obtain ⟨z0, z1, z2, z3, z4⟩ := HZ.out.cell
      obtain ⟨u0, u1, u2, u3⟩ := HY.out.cell
      have xf := HA.out.frozen
      have yf := HB.out.frozen
      have zf := HZ.out.frozen
      have uf := HY.out.frozen
      go_upto_region 2 with fail
      obtain ⟨e1, e2, e3⟩ := HR.out
      subst e1 e2 e3
      have HE := Lib.hid (both_after HZ.out HY.out (by omega) HW.out (by omega) (by omega) (own_nilF _ (w.heap.size + 1 + 1 + 1 + 1 + 1)) (by omega) (by omega) ⟨las, dst, srv, rpt, cel⟩ ⟨bc, bd, bs, true⟩)
      go_region
      all_goals
        go_wp2
        refine bodyPost_ret (results_agb rfl _ _ _ _ ⟨las, dst, srv, rpt, cel⟩ ⟨bc, bd, bs, true⟩ (.slice none 0 0) rfl ?_ rfl ?_ rfl) rfl ⟨(.slice none 0 0), rfl, ?_, ?_⟩
        all_goals first | with_reducible exact HE.out.1.1 | with_reducible exact HE.out.1.2.1 | with_reducible exact HE.out.1.2.2.1 | with_reducible exact HE.out.1.2.2.2 | with_reducible exact HE.out.2.1 | with_reducible exact HE.out.2.2.1 | with_reducible exact HE.out.2.2.2.1 | with_reducible exact HE.out.2.2.2.2
end Go.Proofs.Ytmdnkpiihhaoeaa
