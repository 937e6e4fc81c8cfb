/- Joined texts. -/
import Derived.Test.YtmdnkpiihhaoeaaMzBE
import Derived.Test.YtmdnkpiihhaoeaaMzAD
import Derived.Test.YtmdnkpiihhaoeaaMzAG
namespace Go.Proofs.Ytmdnkpiihhaoeaa
open Go Go.RowKit Fl

open Classical in
/-- What Count returns. -/
noncomputable def countX (N : NetD) : Int × Int := if NetOk N then (cellsN N, 0) else (0, 20)
set_option maxRecDepth 100000 in
set_option maxHeartbeats 4000000 in
theorem refCell_c (Ab An As Ar : Option Addr) (cb cn cs cr : Nat) (N : NetD) (c : Int) (w : World) (hN : NetAt w Ab An As Ar N) (hl : NetLen N) (hcr : N.robots.length ≤ cr) :
    Calls Try.prog 58 #[.agg #[.slice Ab N.blocks.length cb, .slice An N.next.length cn, .slice As N.spurs.length cs, .slice Ar N.robots.length cr, Iv N.queue, Iv N.aging, Iv N.detours, Iv N.patience], .int .i64 c] w fun e w' => e = .returned (.int .i64 (cellE N c)) ∧ Below w.heap.size w w' := by
  have CV := Lib.hid (fun W (hW : Below w.heap.size w W) => refValid_x Ab An As Ar cb cn cs cr N W (hN.keep hW) hl hcr)
  have CC := Lib.hid (fun W (hW : Below w.heap.size w W) (hok : NetOk N) => cells_c Ab An As Ar cb cn cs cr N W (hN.keep hW) hok.few')
  have hB0 := Lib.hid ((Below.refl w.heap.size w).alloc (Nat.le_refl _) (.cells (netCells Ab An As Ar cb cn cs cr N) 29))
  have HX := Lib.hid (boxAt_of (heap_alloc_new w (.cells (netCells Ab An As Ar cb cn cs cr N) 29)))
  have hsz0 : w.heap.size < (w.alloc (.cells (netCells Ab An As Ar cb cn cs cr N) 29)).heap.size := by simp
  obtain ⟨x0, x1, x2, x3, x4, x5, x6, x7⟩ := boxAt_of (heap_alloc_new w (.cells (netCells Ab An As Ar cb cn cs cr N) 29))
  have HOk : Hid (NetOk N → 0 ≤ c ∧ c < cellsN N → cellE N c = 0) := Lib.hid (fun hg h => cellE_ok hg h)
  have HOut : Hid (NetOk N → ¬ (0 ≤ c ∧ c < cellsN N) → cellE N c = 19) := Lib.hid (fun hg h => cellE_out hg h)
  have HNo : Hid (¬ NetOk N → cellE N c = 20) := Lib.hid (fun hg => cellE_no hg)
  generalize cellE N c = z at *
  clear hN hl hcr
  go_enter Try.func58, Try.ntmps58
  go_wp2_with fail
  generalize w.alloc (.cells (netCells Ab An As Ar cb cn cs cr N) 29) = w0 at *
  refine (CV.out _ hB0.out).mono ?_
  intro e w1 hE
  obtain ⟨hE, hb1⟩ := hE.use
  clear CV
  have HB1 : Hid (Below w0.heap.size w0 w1) := Lib.hid hb1
  have HBw1 := Lib.hid (hB0.out.trans (hb1.mono (Nat.le_of_lt hsz0)))
  clear x0 x1 x2 x3 x4 x5 x6 x7 hb1
  obtain ⟨x0, x1, x2, x3, x4, x5, x6, x7⟩ := HX.out.keep hsz0 HB1.out
  obtain ⟨hg, rfl⟩ | ⟨hg, rfl⟩ := hE
  rotate_left
  · have HZ := Lib.hid (HNo.out hg)
    clear hg CC HOk HOut HNo
    go_wp2
    go_ret
    exact ⟨gr_int HZ.out.symm, HBw1.out⟩
  have CC1 := Lib.hid (CC.out _ HBw1.out hg)
  have HO1 := Lib.hid (HOk.out hg)
  have HO2 := Lib.hid (HOut.out hg)
  clear hg CC HOk HOut HNo
  generalize cellsN N = cN at *
  by_cases h0 : c < 0
  · have HZ : Hid (z = 19) := Lib.hid (HO2.out (by omega))
    clear HO1 HO2 CC1
    go_wp2
    go_ret
    exact ⟨gr_int HZ.out.symm, HBw1.out⟩
  · go_wp2_with fail
    refine CC1.out.mono ?_
    rintro e w2 ⟨rfl, hb2⟩
    have HB2 := Lib.hid (HBw1.out.trans (hb2.mono HBw1.out.size))
    clear x0 x1 x2 x3 x4 x5 x6 x7 hb2 CC1
    by_cases h1 : cN ≤ c
    · have HZ : Hid (z = 19) := Lib.hid (HO2.out (by omega))
      clear HO1 HO2
      go_wp2
      go_ret
      exact ⟨gr_int HZ.out.symm, HB2.out⟩
    · have HZ : Hid (z = 0) := Lib.hid (HO1.out (by omega))
      clear HO1 HO2
      go_wp2
      go_ret
      exact ⟨gr_int HZ.out.symm, HB2.out⟩
set_option maxRecDepth 100000 in
set_option maxHeartbeats 4000000 in
theorem refHead9_c (Ab An As Ar : Option Addr) (cb cn cs cr : Nat) (k : Nat) (N : NetD) (w : World) (hN : NetAt w Ab An As Ar N) (hok : NetOk N) (hk : k < N.spurs.length) :
    Calls Try.prog 73 #[.agg #[.slice Ab N.blocks.length cb, .slice An N.next.length cn, .slice As N.spurs.length cs, .slice Ar N.robots.length cr, Iv N.queue, Iv N.aging, Iv N.detours, Iv N.patience], .int .i64 k] w fun e w' => e = .returned (.int .i64 (N.spurs[k].base + N.spurs[k].slots - 1)) ∧ Below w.heap.size w w' := by
  have hbd := hok.bounds _ (List.getElem_mem hk)
  obtain ⟨bp, op, rfl, hbp, hsp⟩ := hN.spurs.spur hk
  have h6 := hok.spurs6
  have hB0 := Lib.hid ((Below.refl w.heap.size w).alloc (Nat.le_refl _) (.cells (netCells Ab An (some ⟨bp, op, none⟩) Ar cb cn cs cr N) 29))
  obtain ⟨x0, x1, x2, x3, x4, x5, x6, x7⟩ := boxAt_of (heap_alloc_new w (.cells (netCells Ab An (some ⟨bp, op, none⟩) Ar cb cn cs cr N) 29))
  obtain ⟨c0, c1, c2, c3, c4, c5⟩ := hsp.keep hbp hB0.out
  clear hN hok hsp
  generalize N.spurs[k] = x at *
  obtain ⟨nm, dp, si, so, sw, sb⟩ := x
  simp only at hbd c0 c1 c2 c3 c4 c5
  have hw1 : IntKind.i64.wrap (sb + sw) = sb + sw := IntWalk.i64_in _ (by omega)
  have hw2 : IntKind.i64.wrap (sb + sw - 1) = sb + sw - 1 := IntWalk.i64_in _ (by omega)
  go_enter Try.func73, Try.ntmps73
  go_wp2_with fail
  generalize w.alloc (.cells (netCells Ab An (some ⟨bp, op, none⟩) Ar cb cn cs cr N) 29) = w0 at *
  go_quiet (fail)
  go_wp2
  go_ret
  exact ⟨rfl, below_drewN hB0.out _⟩
end Go.Proofs.Ytmdnkpiihhaoeaa
namespace Go.Proofs.Ytmdnkpiihhaoeaa
open Go Go.RowKit Fl

set_option maxRecDepth 100000 in
set_option maxHeartbeats 4000000 in
theorem refPlace_c (Ab An As Ar : Option Addr) (cb cn cs cr : Nat) (N : NetD) (c : Int) (w : World) (hN : NetAt w Ab An As Ar N) (h6 : N.spurs.length ≤ 6) (hb : ∀ x ∈ N.spurs, (1 ≤ x.slots ∧ x.slots ≤ 4) ∧ 0 ≤ x.base ∧ x.base ≤ 100) :
    Calls Try.prog 72 #[.agg #[.slice Ab N.blocks.length cb, .slice An N.next.length cn, .slice As N.spurs.length cs, .slice Ar N.robots.length cr, Iv N.queue, Iv N.aging, Iv N.detours, Iv N.patience], .int .i64 c] w fun e w' => e = .returned (.tuple #[.int .i64 (findS N.spurs 0 c).1, .int .i64 (findS N.spurs 0 c).2]) ∧ Below w.heap.size w w' := by
  have HS := Lib.hid hN.spurs
  have HBd := Lib.hid hb
  have hB0 := Lib.hid ((Below.refl w.heap.size w).alloc (Nat.le_refl _) (.cells (netCells Ab An As Ar cb cn cs cr N) 29))
  have HX := Lib.hid (boxAt_of (heap_alloc_new w (.cells (netCells Ab An As Ar cb cn cs cr N) 29)))
  have hsz0 : w.heap.size < (w.alloc (.cells (netCells Ab An As Ar cb cn cs cr N) 29)).heap.size := by simp
  obtain ⟨x0, x1, x2, x3, x4, x5, x6, x7⟩ := boxAt_of (heap_alloc_new w (.cells (netCells Ab An As Ar cb cn cs cr N) 29))
  have HBox : Hid (∀ W, Below (w.alloc (.cells (netCells Ab An As Ar cb cn cs cr N) 29)).heap.size (w.alloc (.cells (netCells Ab An As Ar cb cn cs cr N) 29)) W → W.cell? ⟨w.heap.size, 2, none⟩ = some (.slice As N.spurs.length cs)) := Lib.hid (fun W hW => by
    have := (HX.out.keep hsz0 hW).c2
    exact this)
  have HSz : Hid (∀ W, Below (w.alloc (.cells (netCells Ab An As Ar cb cn cs cr N) 29)).heap.size (w.alloc (.cells (netCells Ab An As Ar cb cn cs cr N) 29)) W → Below w.heap.size w W) := Lib.hid (fun W hW => hB0.out.trans (hW.mono (Nat.le_of_lt hsz0)))
  clear hN hb HX
  go_enter Try.func72, Try.ntmps72
  go_wp2_with fail
  generalize w.alloc (.cells (netCells Ab An As Ar cb cn cs cr N) 29) = w0 at *
  have HB0 := Lib.hid (Below.refl w0.heap.size w0)
  clear x0 x1 x2 x3 x4 x5 x6 x7
  go_loopw [6] (fun i wr => ∃ k : Nat, i = .int .i64 k ∧ k ≤ N.spurs.length ∧ Hid (findS N.spurs 0 c = findS (N.spurs.drop k) k c) ∧ Hid (Below w0.heap.size w0 wr)) (fun i _ => N.spurs.length - (intOf i).toNat)
  case atStart => exact ⟨0, rfl, Nat.zero_le _, Lib.hid (by simp), HB0⟩
  case round =>
    clear HB0
    obtain ⟨k, rfl, hk, HF, HBw⟩ := hrel
    have x2 := HBox.out _ HBw.out
    by_cases hlt : k < N.spurs.length
    · obtain ⟨bp, op, rfl, hbp, hs⟩ := HS.out.spur hlt
      obtain ⟨c0, c1, c2, c3, c4, c5⟩ := hs.keep hbp (HSz.out _ HBw.out)
      have hbd := HBd.out _ (List.getElem_mem hlt)
      have HA := Lib.hid (findS_at (c := c) hlt)
      clear hs
      generalize N.spurs[k] = x at *
      obtain ⟨nm, dp, xi, xo, xw, xb⟩ := x
      simp only at hbd c0 c1 c2 c3 c4 c5 HA
      have HY := Lib.hid (heap_alloc_new wr (.cells #[Sv nm, Bo dp, Iv xi, Iv xo, Iv xw, Iv xb] 66))
      have HB1 : Hid (Below w0.heap.size w0 (wr.alloc (.cells #[Sv nm, Bo dp, Iv xi, Iv xo, Iv xw, Iv xb] 66))) := Lib.hid (HBw.out.alloc HBw.out.size _)
      have y4 : (wr.alloc (.cells #[Sv nm, Bo dp, Iv xi, Iv xo, Iv xw, Iv xb] 66)).cell? ⟨wr.heap.size, 4, none⟩ = some (Iv xw) := by rw [cell_of_row _ _ 4 _ _ _ HY.out]; rfl
      have y5 : (wr.alloc (.cells #[Sv nm, Bo dp, Iv xi, Iv xo, Iv xw, Iv xb] 66)).cell? ⟨wr.heap.size, 5, none⟩ = some (Iv xb) := by rw [cell_of_row _ _ 5 _ _ _ HY.out]; rfl
      have hw0 : IntKind.i64.wrap (xb + xw) = xb + xw := IntWalk.i64_in _ (by omega)
      go_upto_region 5 with fail
      generalize wr.alloc (.cells #[Sv nm, Bo dp, Iv xi, Iv xo, Iv xw, Iv xb] 66) = w1 at *
      clear HY c0 c1 c2 c3 c4 c5 x2
      by_cases h1 : xb ≤ c
      · by_cases h2 : c < xb + xw
        · have HE : Hid (findS N.spurs 0 c = ((k : Int), c - xb + 1)) := Lib.hid (by rw [HF.out, HA.out, if_pos ⟨h1, h2⟩])
          have hw1 : IntKind.i64.wrap (c - xb) = c - xb := IntWalk.i64_in _ (by omega)
          have hw2 : IntKind.i64.wrap (c - xb + 1) = c - xb + 1 := IntWalk.i64_in _ (by omega)
          clear HF HA
          go_wp2
          go_quiet (fail)
          go_wp2
          go_ret2
          exact ⟨by rw [HE.out] <;> rfl, HSz.out _ (below_drewN HB1.out _)⟩
        · have HF2 : Hid (findS N.spurs 0 c = findS (N.spurs.drop (k + 1)) (k + 1) c) := Lib.hid (by rw [HF.out, HA.out, if_neg (fun h => h2 h.2)])
          have h2' : decide (c < xb + xw) = false := decide_eq_false h2
          clear HF HA
          go_wp2
          go_roundw
          case rel => exact ⟨k + 1, by go_num, by omega, HF2, HB1⟩
          case measure => simp [intOf]; omega
      · have HF2 : Hid (findS N.spurs 0 c = findS (N.spurs.drop (k + 1)) (k + 1) c) := Lib.hid (by rw [HF.out, HA.out, if_neg (fun h => h1 h.1)])
        have h1' : decide (xb ≤ c) = false := decide_eq_false h1
        clear HF HA
        go_wp2
        go_roundw
        case rel => exact ⟨k + 1, by go_num, by omega, HF2, HB1⟩
        case measure => simp [intOf]; omega
    · obtain rfl : k = N.spurs.length := by omega
      have HE : Hid (findS N.spurs 0 c = (-1, 0)) := Lib.hid (by rw [HF.out, findS_end])
      clear HF
      go_wp2
      go_ret2
      exact ⟨by rw [HE.out] <;> rfl, HSz.out _ HBw.out⟩
section
variable {ops : Array Oper} {rest : List Oper} {o : Oper} {a : Act} {Q : Exit → Act → World → Prop}
theorem run_append_zeroI {P : Program} (w : World) (t ty e : TypeId) (i : TypeInfo) (ht : P.underlying t = some (.slice e)) (hi : P.info? e = some i) (A X : Option Addr) (n c d : Nat) (hnc : n ≤ c) :
    (Builtin.append_ #[t, t] ty #[.slice A n c, .slice X 0 d]).run P w = .ok (.slice A n c) w := by
  cases A <;> cases X <;> simp [Builtin.append_, run_underlying ht, sizeOf, typeInfo, hi, Builtin.lenOf, hnc, Builtin.firstCells, loadCells, loadCellsFrom, storeCells, Result.andThen]
/-- A list of numbers is appended to no list. -/
theorem app_rowI (w : World) (hgd : o.guard = none) (s x : Operand) (ho : o.op = .call { callee := .builtin .append, args := #[s, x], argTypes := #[25, 25] }) (base : Nat) (hs : a.eval s = .slice none 0 0)
    (X : Option Addr) (c : Nat) (M : List Int) (hx : a.eval x = .slice X M.length c) (hM : Holds w X (M.map Iv)) (hn : M.length ≤ 1000000) (hbase : base ≤ w.heap.size)
    (h : ∀ v' w', w'.ownsRow base 3 1 v' M.length (M.map Iv) → w.grownBy w' none → wpList Try.prog ops Q rest (a.put o.dst v') w') : wpList Try.prog ops Q (o :: rest) a w := by
  obtain ⟨i0, hi, hz0, hz1, hz2⟩ := info_parts Try.infoIntG
  by_cases hMe : M = []
  · subst hMe
    have hrun := run_append_zeroI (P := Try.prog) w 25 o.type 3 i0 Try.underlying25 hi none X 0 0 c (Nat.le_refl _)
    have hk := h (.slice none 0 0) w (World.ownsRow_nil _ _ _ _) ⟨rfl, rfl, rfl, Nat.le_refl _, fun _ _ _ => rfl⟩
    refine wpList_plain hgd fun K hK => ?_
    unfold Oper.wp
    simp only [List.length_nil] at hx
    simp [execOp, ho, resolve, invoke, builtin, hs, hx, hrun, Result.andThen]
    exact hK _ _ hk
  · obtain ⟨b, o', rfl, hb, hc⟩ := hM.at_ (by rw [List.length_map]; exact List.length_pos_iff.2 hMe)
    refine wpList_append_own w hgd s x 25 ho base 3 i0 (.int .i64 0) 1 8 Try.underlying25 hi hz0 hz1 hz2 rfl (by omega) (.slice none 0 0) 0 [] hs (World.ownsRow_nil _ _ _ _) ⟨b, o', none⟩ M.length c (M.map Iv) hx (by simp) (fun j u hu => ?_) (fun u hu => ?_) (by unfold maxLen; omega) (by omega) hbase (fun v' w' g1 g2 _ => h v' w' (by simpa using g1) g2)
    · obtain ⟨hj, hv⟩ := List.getElem?_eq_some_iff.1 hu
      rw [← hv, show ((⟨b, o', none⟩ : Addr).add j) = ⟨b, o' + j, none⟩ by simp [Addr.add]]
      exact hc j hj
    · obtain ⟨y, _, rfl⟩ := List.mem_map.1 hu
      rfl
end
/-- A list of numbers is returned in a row of the call's own. -/
def RowPost (w : World) (xs : List Int) (e : Ending) (w' : World) : Prop := ∃ u, e = .returned u ∧ w'.ownsRow w.heap.size 3 1 u xs.length (xs.map Iv) ∧ Below w.heap.size w w'
set_option maxRecDepth 100000 in
set_option maxHeartbeats 4000000 in
theorem refNextS_c (Ab An As Ar : Option Addr) (cb cn cs cr : Nat) (k : Nat) (N : NetD) (c : Int) (w : World) (hN : NetAt w Ab An As Ar N) (hok : NetOk N) (hk : k < N.spurs.length) (h1 : N.spurs[k].base ≤ c) (h2 : c < N.spurs[k].base + N.spurs[k].slots) :
    Calls Try.prog 59 #[.agg #[.slice Ab N.blocks.length cb, .slice An N.next.length cn, .slice As N.spurs.length cs, .slice Ar N.robots.length cr, Iv N.queue, Iv N.aging, Iv N.detours, Iv N.patience], .int .i64 c] w (RowPost w [if c + 1 < N.spurs[k].base + N.spurs[k].slots then c + 1 else N.spurs[k].out]) := by
  have CP := Lib.hid (fun W (hW : Below w.heap.size w W) => by
    have h := refPlace_c Ab An As Ar cb cn cs cr N c W (hN.keep hW) hok.spurs6 hok.bounds
    rw [hok.findIn hk h1 h2] at h
    exact h)
  have CH := Lib.hid (fun W (hW : Below w.heap.size w W) => refHead9_c Ab An As Ar cb cn cs cr k N W (hN.keep hW) hok hk)
  have hbd := hok.bounds _ (List.getElem_mem hk)
  obtain ⟨bp, op, rfl, hbp, hsp⟩ := hN.spurs.spur hk
  have HSp : Hid (∀ W, Below w.heap.size w W → SpurAt W bp (op + k * 6) N.spurs[k]) := Lib.hid (fun W hW => hsp.keep hbp hW)
  have h6 := hok.spurs6
  have hB0 := Lib.hid ((Below.refl w.heap.size w).alloc (Nat.le_refl _) (.cells (netCells Ab An (some ⟨bp, op, none⟩) Ar cb cn cs cr N) 29))
  have HX := Lib.hid (boxAt_of (heap_alloc_new w (.cells (netCells Ab An (some ⟨bp, op, none⟩) Ar cb cn cs cr N) 29)))
  have hsz0 : w.heap.size < (w.alloc (.cells (netCells Ab An (some ⟨bp, op, none⟩) Ar cb cn cs cr N) 29)).heap.size := by simp
  obtain ⟨x0, x1, x2, x3, x4, x5, x6, x7⟩ := boxAt_of (heap_alloc_new w (.cells (netCells Ab An (some ⟨bp, op, none⟩) Ar cb cn cs cr N) 29))
  clear hN hok hsp
  generalize N.spurs[k] = x at *
  obtain ⟨nm, dp, si, so, sw, sb⟩ := x
  simp only at hbd HSp h1 h2 CH CP
  have hw1 : IntKind.i64.wrap (c + 1) = c + 1 := IntWalk.i64_in _ (by omega)
  generalize hnx : (if c + 1 < sb + sw then c + 1 else so) = nx at *
  go_enter Try.func59, Try.ntmps59
  go_wp2_with fail
  generalize w.alloc (.cells (netCells Ab An (some ⟨bp, op, none⟩) Ar cb cn cs cr N) 29) = w0 at *
  refine (CP.out _ hB0.out).mono ?_
  rintro e w1 ⟨rfl, hb1⟩
  clear CP
  have HB1 : Hid (Below w0.heap.size w0 w1) := Lib.hid hb1
  have HBw1 := Lib.hid (hB0.out.trans (hb1.mono (Nat.le_of_lt hsz0)))
  clear x0 x1 x2 x3 x4 x5 x6 x7 hb1
  obtain ⟨x0, x1, x2, x3, x4, x5, x6, x7⟩ := HX.out.keep hsz0 HB1.out
  go_wp2_with fail
  refine (CH.out _ HBw1.out).mono ?_
  rintro e w2 ⟨rfl, hb2⟩
  have HB2 : Hid (Below w0.heap.size w0 w2) := Lib.hid (HB1.out.trans (hb2.mono HB1.out.size))
  have HBw2 := Lib.hid (HBw1.out.trans (hb2.mono HBw1.out.size))
  clear x0 x1 x2 x3 x4 x5 x6 x7 hb2 CH
  obtain ⟨x0, x1, x2, x3, x4, x5, x6, x7⟩ := HX.out.keep hsz0 HB2.out
  obtain ⟨c0, c1, c2, c3, c4, c5⟩ := HSp.out _ HBw2.out
  simp only at c0 c1 c2 c3 c4 c5
  have hsz2 := HBw2.out.size
  by_cases hl : c + 1 < sb + sw
  · rw [if_pos hl] at hnx
    subst hnx
    have hne : (c == sb + sw - 1) = false := by rw [beq_eq_false_iff_ne]; omega
    clear hl
    go_wp2
    go_ret
    refine ⟨_, rfl, ?_, HBw2.out.alloc hsz2 _⟩
    exact World.ownsRow_lit w2 #[Iv (c + 1)] 1 hsz2 (by unfold maxLen; omega) rfl
  · rw [if_neg hl] at hnx
    subst hnx
    have heq : (c == sb + sw - 1) = true := by rw [beq_iff_eq]; omega
    clear hl
    go_wp2
    go_ret
    refine ⟨_, rfl, ?_, HBw2.out.alloc hsz2 _⟩
    exact World.ownsRow_lit w2 #[Iv so] 1 hsz2 (by unfold maxLen; omega) rfl
set_option maxRecDepth 100000 in
set_option maxHeartbeats 4000000 in
theorem refNextB_c (Ab An As Ar : Option Addr) (cb cn cs cr : Nat) (b : Nat) (N : NetD) (w : World) (hN : NetAt w Ab An As Ar N) (hok : NetOk N) (hb : b < N.blocks.length) (hb' : b < N.next.length) :
    Calls Try.prog 59 #[.agg #[.slice Ab N.blocks.length cb, .slice An N.next.length cn, .slice As N.spurs.length cs, .slice Ar N.robots.length cr, Iv N.queue, Iv N.aging, Iv N.detours, Iv N.patience], .int .i64 b] w (RowPost w (N.next[b] ++ spurBases N.spurs b)) := by
  have CP := Lib.hid (fun W (hW : Below w.heap.size w W) => by
    have h := refPlace_c Ab An As Ar cb cn cs cr N b W (hN.keep hW) hok.spurs6 hok.bounds
    rw [hok.findBlock (c := (b : Int)) (by omega)] at h
    exact h)
  have h6 := hok.spurs6
  have h24 := hok.few
  have h4 := hok.outs _ (List.getElem_mem hb')
  obtain ⟨bn, on, A1, c1, rfl, hrow, hrow1⟩ := hN.next.one hb'
  have hbn : bn < w.heap.size := World.block_lt_of_cell? _ _ hrow
  have HRow : Hid (∀ W, Below w.heap.size w W → W.cell? ⟨bn, on + b, none⟩ = some (.slice A1 N.next[b].length c1) ∧ Holds W A1 (N.next[b].map Iv)) := Lib.hid (fun W hW => ⟨(hW.cell (p := ⟨bn, on + b, none⟩) hbn).trans hrow, hrow1.keep hW⟩)
  have HS := Lib.hid hN.spurs
  have hB0 := Lib.hid ((Below.refl w.heap.size w).alloc (Nat.le_refl _) (.cells (netCells Ab (some ⟨bn, on, none⟩) As Ar cb cn cs cr N) 29))
  have HX := Lib.hid (boxAt_of (heap_alloc_new w (.cells (netCells Ab (some ⟨bn, on, none⟩) As Ar cb cn cs cr N) 29)))
  have hsz0 : w.heap.size < (w.alloc (.cells (netCells Ab (some ⟨bn, on, none⟩) As Ar cb cn cs cr N) 29)).heap.size := by simp
  obtain ⟨x0, x1, x2, x3, x4, x5, x6, x7⟩ := boxAt_of (heap_alloc_new w (.cells (netCells Ab (some ⟨bn, on, none⟩) As Ar cb cn cs cr N) 29))
  have HBox : Hid (∀ W, Below (w.alloc (.cells (netCells Ab (some ⟨bn, on, none⟩) As Ar cb cn cs cr N) 29)).heap.size (w.alloc (.cells (netCells Ab (some ⟨bn, on, none⟩) As Ar cb cn cs cr N) 29)) W → W.cell? ⟨w.heap.size, 2, none⟩ = some (.slice As N.spurs.length cs)) := Lib.hid (fun W hW => (HX.out.keep hsz0 hW).c2)
  have HSz : Hid (∀ W, Below (w.alloc (.cells (netCells Ab (some ⟨bn, on, none⟩) As Ar cb cn cs cr N) 29)).heap.size (w.alloc (.cells (netCells Ab (some ⟨bn, on, none⟩) As Ar cb cn cs cr N) 29)) W → Below w.heap.size w W) := Lib.hid (fun W hW => hB0.out.trans (hW.mono (Nat.le_of_lt hsz0)))
  clear hN hok hrow hrow1
  generalize N.next[b] = row at *
  go_enter Try.func59, Try.ntmps59
  go_wp2_with fail
  generalize w.alloc (.cells (netCells Ab (some ⟨bn, on, none⟩) As Ar cb cn cs cr N) 29) = w0 at *
  refine (CP.out _ hB0.out).mono ?_
  rintro e w1 ⟨rfl, hb1⟩
  clear CP
  have HB1 : Hid (Below w0.heap.size w0 w1) := Lib.hid hb1
  have HBw1 := Lib.hid (hB0.out.trans (hb1.mono (Nat.le_of_lt hsz0)))
  clear x0 x1 x2 x3 x4 x5 x6 x7 hb1
  obtain ⟨x0, x1, x2, x3, x4, x5, x6, x7⟩ := HX.out.keep hsz0 HB1.out
  obtain ⟨r1, r2⟩ := HRow.out _ HBw1.out
  have HR2 := Lib.hid r2
  have hsz1 : w0.heap.size ≤ w1.heap.size := HB1.out.size
  clear r2 HRow
  go_wp2_with (at_builtin; refine app_rowI _ rfl _ _ rfl w0.heap.size rfl A1 c1 row rfl HR2.out (by omega) hsz1 ?_)
  intro v2 w2 own2 hg2
  have HO2 := Lib.hid own2
  have HB2 : Hid (Below w0.heap.size w0 w2) := Lib.hid (HB1.out.grown hg2 hsz1 (fun k hk => by cases hk))
  clear own2 hg2 x0 x1 x2 x3 x4 x5 x6 x7 r1 HR2
  go_wp2_with fail
  go_loopw [7, 8] (fun v i wr => ∃ (k : Nat), i = .int .i64 k ∧ k ≤ N.spurs.length ∧ Hid (wr.ownsRow w0.heap.size 3 1 v (row ++ spurBases (N.spurs.take k) b).length ((row ++ spurBases (N.spurs.take k) b).map Iv)) ∧ Hid (Below w0.heap.size w0 wr)) (fun _ i _ => N.spurs.length - (intOf i).toNat)
  case atStart => exact ⟨0, rfl, Nat.zero_le _, Lib.hid (by simpa [spurBases] using HO2.out), HB2⟩
  case round =>
    clear HO2 HB2
    obtain ⟨k, rfl, hk, HO, HB⟩ := hrel
    have x2 := HBox.out _ HB.out
    by_cases hlt : k < N.spurs.length
    · obtain ⟨bp, op, hAs, hbp, hs⟩ := HS.out.spur hlt
      have HE := Lib.hid (spurBases_succ (c := (b : Int)) hlt)
      have HF := Lib.hid (spurBases_few (N.spurs.take k) (b : Int))
      rw [hAs] at x2
      obtain ⟨c0, c1, c2, c3, c4, c5⟩ := hs.keep hbp (HSz.out _ HB.out)
      clear hs
      generalize N.spurs[k] = x at *
      obtain ⟨nm, dp, xi, xo, xw, xb⟩ := x
      simp only at c0 c1 c2 c3 c4 c5 HE
      by_cases hin : xi = (b : Int)
      · have HE2 : Hid (row ++ spurBases (N.spurs.take (k + 1)) b = row ++ spurBases (N.spurs.take k) b ++ [xb]) := Lib.hid (by rw [HE.out, if_pos hin, List.append_assoc])
        subst hin
        have hl : (row ++ spurBases (N.spurs.take k) b).length ≤ 100 := by
          have := HF.out
          rw [List.length_take] at this
          rw [List.length_append]
          omega
        have hwz : w0.heap.size ≤ wr.heap.size := HB.out.size
        clear HE HF hAs
        generalize row ++ spurBases (N.spurs.take k) b = xs at *
        have hb3 := own_base HO.out
        go_wp2_with (at_builtin; refine app_int _ rfl _ _ rfl w0.heap.size _ _ _ rfl (HO.out.alloc _) wr.heap.size xb rfl (by simp [go_sem]) (by omega) (by simp; omega) ?_)
        intro v8 w8 own8 hg8
        have HB8 : Hid (Below w0.heap.size w0 w8) := Lib.hid ((HB.out.alloc hwz _).grown hg8 (by simp; omega) (fun k hk => hb3 k hk))
        have HO8 : Hid (w8.ownsRow w0.heap.size 3 1 v8 (row ++ spurBases (N.spurs.take (k + 1)) b).length ((row ++ spurBases (N.spurs.take (k + 1)) b).map Iv)) := Lib.hid (by rw [HE2.out, List.length_append, List.map_append]; exact own8)
        clear own8 hg8 hb3 HO
        go_wp2
        go_roundw
        case rel => exact ⟨k + 1, by go_num, by omega, HO8, HB8⟩
        case measure => simp [intOf]; omega
      · have HE2 : Hid (row ++ spurBases (N.spurs.take (k + 1)) b = row ++ spurBases (N.spurs.take k) b) := Lib.hid (by rw [HE.out, if_neg hin, List.append_nil])
        have hin' : (xi == (b : Int)) = false := by rw [beq_eq_false_iff_ne]; exact hin
        have HO3 := Lib.hid (by rw [← HE2.out] at HO; exact HO.out : wr.ownsRow w0.heap.size 3 1 u7 (row ++ spurBases (N.spurs.take (k + 1)) b).length ((row ++ spurBases (N.spurs.take (k + 1)) b).map Iv))
        clear HE HF hAs HO HE2
        go_wp2
        go_roundw
        case rel => exact ⟨k + 1, by go_num, by omega, HO3, HB⟩
        case measure => simp [intOf]; omega
    · obtain rfl : k = N.spurs.length := by omega
      rw [List.take_length] at HO
      have HEnd := Lib.hid (HSz.out _ HB.out)
      have HO9 : Hid (wr.ownsRow w.heap.size 3 1 u7 (row ++ spurBases N.spurs b).length ((row ++ spurBases N.spurs b).map Iv)) := Lib.hid (own_down HO.out (Nat.le_of_lt hsz0))
      clear HO HB
      go_wp2
      go_ret
      exact ⟨_, rfl, HO9.out, HEnd.out⟩
end Go.Proofs.Ytmdnkpiihhaoeaa
namespace Go.Proofs.Ytmdnkpiihhaoeaa
open Go Go.RowKit Fl

theorem refNextIs_c (Ab An As Ar : Option Addr) (cb cn cs cr : Nat) (N : NetD) (c : Int) (xs : List Int) (w : World) (hN : NetAt w Ab An As Ar N) (hok : NetOk N) (h : NextIs N c xs) :
    Calls Try.prog 59 #[.agg #[.slice Ab N.blocks.length cb, .slice An N.next.length cn, .slice As N.spurs.length cs, .slice Ar N.robots.length cr, Iv N.queue, Iv N.aging, Iv N.detours, Iv N.patience], .int .i64 c] w (RowPost w xs) := by
  rcases h with ⟨b, hb, hb', rfl, rfl⟩ | ⟨k, hk, h1, h2, rfl⟩
  · exact refNextB_c Ab An As Ar cb cn cs cr b N w hN hok hb hb'
  · exact refNextS_c Ab An As Ar cb cn cs cr k N c w hN hok hk h1 h2
set_option maxRecDepth 100000 in
set_option maxHeartbeats 4000000 in
theorem follows_bad (Ab An As Ar : Option Addr) (cb cn cs cr : Nat) (N : NetD) (c z : Int) (w : World) (hN : NetAt w Ab An As Ar N) (hl : NetLen N) (hcr : N.robots.length ≤ cr) (hz : cellE N c ≠ 0) :
    Calls Try.prog 24 #[.agg #[.slice Ab N.blocks.length cb, .slice An N.next.length cn, .slice As N.spurs.length cs, .slice Ar N.robots.length cr, Iv N.queue, Iv N.aging, Iv N.detours, Iv N.patience], .int .i64 c, .int .i64 z] w fun e w' => e = .returned (.bool false) ∧ Below w.heap.size w w' := by
  have CN := Lib.hid (fun W (hW : Below w.heap.size w W) => next_bad Ab An As Ar cb cn cs cr c N W (hN.keep hW) hl hcr hz)
  have CQ := Lib.hid (fun W => contains_c none 0 [] z W (.inl rfl) (by simp))
  have hB0 := Lib.hid ((Below.refl w.heap.size w).alloc (Nat.le_refl _) (.cells (netCells Ab An As Ar cb cn cs cr N) 29))
  have HX := Lib.hid (boxAt_of (heap_alloc_new w (.cells (netCells Ab An As Ar cb cn cs cr N) 29)))
  have hsz0 : w.heap.size < (w.alloc (.cells (netCells Ab An As Ar cb cn cs cr N) 29)).heap.size := by simp
  obtain ⟨x0, x1, x2, x3, x4, x5, x6, x7⟩ := boxAt_of (heap_alloc_new w (.cells (netCells Ab An As Ar cb cn cs cr N) 29))
  generalize cellE N c = er at *
  clear hN hl hcr hz HX
  go_enter Try.func24, Try.ntmps24
  go_wp2_with fail
  generalize w.alloc (.cells (netCells Ab An As Ar cb cn cs cr N) 29) = w0 at *
  refine (CN.out _ hB0.out).mono ?_
  rintro e w1 ⟨rfl, hb1⟩
  have HB1 := Lib.hid (hB0.out.trans (hb1.mono (Nat.le_of_lt hsz0)))
  clear x0 x1 x2 x3 x4 x5 x6 x7 hb1 CN
  go_wp2_with fail
  refine (CQ.out _).mono ?_
  rintro e w2 ⟨rfl, rfl⟩
  go_wp2
  go_ret
  exact ⟨by simp, HB1.out⟩
set_option maxRecDepth 100000 in
set_option maxHeartbeats 4000000 in
theorem refFollows_c (Ab An As Ar : Option Addr) (cb cn cs cr : Nat) (N : NetD) (c z : Int) (w : World) (hN : NetAt w Ab An As Ar N) (hl : NetLen N) (hcr : N.robots.length ≤ cr) (res : Bool) (hr : (cellE N c ≠ 0 ∧ res = false) ∨ (cellE N c = 0 ∧ cellE N z ≠ 0 ∧ res = false) ∨ (cellE N c = 0 ∧ cellE N z = 0 ∧ ∃ xs, NextIs N c xs ∧ xs.length ≤ 24 ∧ res = decide (z ∈ xs))) :
    Calls Try.prog 40 #[.agg #[.slice Ab N.blocks.length cb, .slice An N.next.length cn, .slice As N.spurs.length cs, .slice Ar N.robots.length cr, Iv N.queue, Iv N.aging, Iv N.detours, Iv N.patience], .int .i64 c, .int .i64 z] w fun e w' => e = .returned (.bool res) ∧ Below w.heap.size w w' := by
  have CE := Lib.hid (fun W (hW : Below w.heap.size w W) => refCell_c Ab An As Ar cb cn cs cr N c W (hN.keep hW) hl hcr)
  have CZ := Lib.hid (fun W (hW : Below w.heap.size w W) => refCell_c Ab An As Ar cb cn cs cr N z W (hN.keep hW) hl hcr)
  have CN := Lib.hid (fun W (hW : Below w.heap.size w W) (xs : List Int) (hok : NetOk N) (hx : NextIs N c xs) => refNextIs_c Ab An As Ar cb cn cs cr N c xs W (hN.keep hW) hok hx)
  have hB0 := Lib.hid ((Below.refl w.heap.size w).alloc (Nat.le_refl _) (.cells (netCells Ab An As Ar cb cn cs cr N) 29))
  have HX := Lib.hid (boxAt_of (heap_alloc_new w (.cells (netCells Ab An As Ar cb cn cs cr N) 29)))
  have hsz0 : w.heap.size < (w.alloc (.cells (netCells Ab An As Ar cb cn cs cr N) 29)).heap.size := by simp
  obtain ⟨x0, x1, x2, x3, x4, x5, x6, x7⟩ := boxAt_of (heap_alloc_new w (.cells (netCells Ab An As Ar cb cn cs cr N) 29))
  rcases hr with ⟨h1, rfl⟩ | ⟨h1, h2, rfl⟩ | ⟨h1, h2, xs, hx, hx24, rfl⟩
  · have h1b : (cellE N c == 0) = false := by rw [beq_eq_false_iff_ne]; exact h1
    generalize cellE N c = z1 at *
    clear hN hl hcr h1 HX CZ CN
    go_enter Try.func40, Try.ntmps40
    go_wp2_with fail
    generalize w.alloc (.cells (netCells Ab An As Ar cb cn cs cr N) 29) = w0 at *
    refine (CE.out _ hB0.out).mono ?_
    rintro e w1 ⟨rfl, hb1⟩
    have HB1 := Lib.hid (hB0.out.trans (hb1.mono (Nat.le_of_lt hsz0)))
    clear x0 x1 x2 x3 x4 x5 x6 x7 hb1 CE
    go_wp2
    go_ret
    exact ⟨rfl, HB1.out⟩
  · have h2b : (cellE N z == 0) = false := by rw [beq_eq_false_iff_ne]; exact h2
    rw [h1] at CE
    generalize cellE N z = z2 at *
    clear hN hl hcr h1 h2 CN
    go_enter Try.func40, Try.ntmps40
    go_wp2_with fail
    generalize w.alloc (.cells (netCells Ab An As Ar cb cn cs cr N) 29) = w0 at *
    refine (CE.out _ hB0.out).mono ?_
    rintro e w1 ⟨rfl, hb1⟩
    clear CE
    have HB1 : Hid (Below w0.heap.size w0 w1) := Lib.hid hb1
    have HBw1 := Lib.hid (hB0.out.trans (hb1.mono (Nat.le_of_lt hsz0)))
    clear x0 x1 x2 x3 x4 x5 x6 x7 hb1
    obtain ⟨x0, x1, x2, x3, x4, x5, x6, x7⟩ := HX.out.keep hsz0 HB1.out
    go_wp2_with fail
    refine (CZ.out _ HBw1.out).mono ?_
    rintro e w2 ⟨rfl, hb2⟩
    have HB2 := Lib.hid (HBw1.out.trans (hb2.mono HBw1.out.size))
    clear hb2 CZ x0 x1 x2 x3 x4 x5 x6 x7
    go_wp2
    go_ret
    exact ⟨rfl, HB2.out⟩
  · rw [h1] at CE
    rw [h2] at CZ
    have CN2 := Lib.hid (fun W hW => CN.out W hW xs (cellE_zero h1).1 hx)
    have HX24 := Lib.hid hx24
    clear hN hl hcr h1 h2 CN hx hx24
    go_enter Try.func40, Try.ntmps40
    go_wp2_with fail
    generalize w.alloc (.cells (netCells Ab An As Ar cb cn cs cr N) 29) = w0 at *
    refine (CE.out _ hB0.out).mono ?_
    rintro e w1 ⟨rfl, hb1⟩
    clear CE
    have HB1 : Hid (Below w0.heap.size w0 w1) := Lib.hid hb1
    have HBw1 := Lib.hid (hB0.out.trans (hb1.mono (Nat.le_of_lt hsz0)))
    clear x0 x1 x2 x3 x4 x5 x6 x7 hb1
    obtain ⟨x0, x1, x2, x3, x4, x5, x6, x7⟩ := HX.out.keep hsz0 HB1.out
    go_wp2_with fail
    refine (CZ.out _ HBw1.out).mono ?_
    rintro e w2 ⟨rfl, hb2⟩
    have HBa : Hid (Below w0.heap.size w0 w2) := Lib.hid (HB1.out.trans (hb2.mono HB1.out.size))
    have HB2 := Lib.hid (HBw1.out.trans (hb2.mono HBw1.out.size))
    clear hb2 CZ x0 x1 x2 x3 x4 x5 x6 x7
    obtain ⟨x0, x1, x2, x3, x4, x5, x6, x7⟩ := HX.out.keep hsz0 HBa.out
    go_wp2_with fail
    refine (CN2.out _ HB2.out).mono ?_
    rintro e w3 ⟨u, rfl, hu, hb3⟩
    obtain ⟨A, cc, rfl, hh⟩ := own_is hu
    have HB3 := Lib.hid (HB2.out.trans (hb3.mono HB2.out.size))
    have CQ := Lib.hid (has_c A cc xs z w3 hh (by have := HX24.out; omega))
    clear hu hh x0 x1 x2 x3 x4 x5 x6 x7 hb3 CN2
    go_wp2_with fail
    refine CQ.out.mono ?_
    rintro e w4 ⟨rfl, rfl⟩
    clear CQ
    go_wp2
    go_ret
    exact ⟨rfl, HB3.out⟩
/-- Both calls answer the same. -/
theorem follows_pair (Ab An As Ar : Option Addr) (cb cn cs cr : Nat) (N : NetD) (c z : Int) (w : World) (hN : NetAt w Ab An As Ar N) (hl : NetLen N) (hcr : N.robots.length ≤ cr) :
    ∃ res : Bool, (∀ W, Below w.heap.size w W → Calls Try.prog 24 #[.agg #[.slice Ab N.blocks.length cb, .slice An N.next.length cn, .slice As N.spurs.length cs, .slice Ar N.robots.length cr, Iv N.queue, Iv N.aging, Iv N.detours, Iv N.patience], .int .i64 c, .int .i64 z] W fun e w' => e = .returned (.bool res) ∧ Below W.heap.size W w') ∧ (∀ W, Below w.heap.size w W → Calls Try.prog 40 #[.agg #[.slice Ab N.blocks.length cb, .slice An N.next.length cn, .slice As N.spurs.length cs, .slice Ar N.robots.length cr, Iv N.queue, Iv N.aging, Iv N.detours, Iv N.patience], .int .i64 c, .int .i64 z] W fun e w' => e = .returned (.bool res) ∧ Below W.heap.size W w') := by
  by_cases h1 : cellE N c = 0
  · obtain ⟨hok, hin⟩ := cellE_zero h1
    obtain ⟨xs, hx, hx24, hxin⟩ := hok.nextIs hin
    refine ⟨decide (z ∈ xs), fun W hW => follows_c Ab An As Ar cb cn cs cr N c z xs W hx24 (fun W2 hW2 => devNextIs_c Ab An As Ar cb cn cs cr N c xs W2 ((hN.keep hW).keep hW2) hok hcr hx), fun W hW => refFollows_c Ab An As Ar cb cn cs cr N c z W (hN.keep hW) hl hcr _ ?_⟩
    by_cases h2 : cellE N z = 0
    · exact .inr (.inr ⟨h1, h2, xs, hx, hx24, rfl⟩)
    · exact .inr (.inl ⟨h1, h2, decide_eq_false (fun h => h2 (cellE_ok hok (hxin z h)))⟩)
  · exact ⟨false, fun W hW => follows_bad Ab An As Ar cb cn cs cr N c z W (hN.keep hW) hl hcr h1, fun W hW => refFollows_c Ab An As Ar cb cn cs cr N c z W (hN.keep hW) hl hcr _ (.inl ⟨h1, rfl⟩)⟩
end Go.Proofs.Ytmdnkpiihhaoeaa
