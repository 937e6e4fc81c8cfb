/- Contracts of cells, for valid networks: Count, headOf, isSpur. -/
import Derived.Test.YtcpoojlhfebcmaaDvValid
namespace Go.Proofs.Ytcpoojlhfebcmaa
open Go Go.RowKit Fl

theorem headOf_c (nm : List UInt8) (dp : Bool) (si so sw sb : Int) (w : World) (h1 : 0 ≤ sw ∧ sw ≤ 1000) (h2 : 0 ≤ sb ∧ sb ≤ 1000) : Calls Try.prog 34 #[.agg #[Sv nm, Bo dp, Iv si, Iv so, Iv sw, Iv sb]] w fun e w' => e = .returned (.int .i64 (sb + sw - 1)) ∧ Below w.heap.size w w' := by
  have hB0 := Lib.hid ((Below.refl w.heap.size w).alloc (Nat.le_refl _) (.cells #[Sv nm, Bo dp, Iv si, Iv so, Iv sw, Iv sb] 50))
  have hw1 : IntKind.i64.wrap (sb + sw) = sb + sw := IntWalk.i64_in _ (by omega)
  have hw2 : IntKind.i64.wrap (sb + sw - 1) = sb + sw - 1 := IntWalk.i64_in _ (by omega)
  go_enter Try.func34, Try.ntmps34
  go_wp2
  go_ret
  exact ⟨rfl, hB0.out⟩
theorem NetOk.bounds {N : NetD} (hok : NetOk N) : ∀ s ∈ N.spurs, (1 ≤ s.slots ∧ s.slots ≤ 4) ∧ 0 ≤ s.base ∧ s.base ≤ 100 := fun s hs => by
  obtain ⟨k, hk, rfl⟩ := List.mem_iff_getElem.1 hs
  have h1 := (hok.spurOk _ hs).slots
  have h2 := hok.bases k hk
  have h3 := slotsK_bounds (l := N.spurs) (fun s hs => by have := (hok.spurOk s hs).slots; omega) k (by omega)
  have h4 := hok.few
  have h5 := hok.spurs6
  omega
set_option maxRecDepth 100000 in
set_option maxHeartbeats 4000000 in
theorem count_c (Ab An As Ar : Option Addr) (cb cn cs cr : Nat) (N : NetD) (w : World) (hN : NetAt w Ab An As Ar N) (hok : NetOk N) (hcr : N.robots.length ≤ cr) :
    Calls Try.prog 32 #[.agg #[.slice Ab N.blocks.length cb, .slice An N.next.length cn, .slice As N.spurs.length cs, .slice Ar N.robots.length cr, Iv N.queue, Iv N.aging, Iv N.detours, Iv N.patience]] w fun e w' => e = .returned (.tuple #[.int .i64 (cellsN N), .int .i64 0]) ∧ Below w.heap.size w w' := by
  have CV := Lib.hid (fun W (hW : Below w.heap.size w W) => netValid_c Ab An As Ar cb cn cs cr N W (hN.keep hW) hok hcr)
  have HS := Lib.hid hN.spurs
  have h6 := hok.spurs6
  have hpos : 0 < N.spurs.length := by
    obtain ⟨s, hs, _⟩ := hok.depot
    exact List.length_pos_of_mem hs
  have hlast : N.spurs.length - 1 < N.spurs.length := by omega
  have HE : Hid (cellsN N = N.spurs[N.spurs.length - 1].base + N.spurs[N.spurs.length - 1].slots - 1 + 1) := Lib.hid (by
    have h1 := hok.bases _ hlast
    have h2 := slotsK_succ hlast
    rw [show N.spurs.length - 1 + 1 = N.spurs.length by omega] at h2
    unfold cellsN
    omega)
  have hbd := hok.bounds _ (List.getElem_mem hlast)
  have hB0 := Lib.hid ((Below.refl w.heap.size w).alloc (Nat.le_refl _) (.cells (netCells Ab An As Ar cb cn cs cr N) 29))
  have HX := Lib.hid (boxAt_of (heap_alloc_new w (.cells (netCells Ab An As Ar cb cn cs cr N) 29)))
  have hsz0 : w.heap.size < (w.alloc (.cells (netCells Ab An As Ar cb cn cs cr N) 29)).heap.size := by simp
  obtain ⟨x0, x1, x2, x3, x4, x5, x6, x7⟩ := boxAt_of (heap_alloc_new w (.cells (netCells Ab An As Ar cb cn cs cr N) 29))
  clear hN hok
  go_enter Try.func32, Try.ntmps32
  go_wp2_with fail
  generalize w.alloc (.cells (netCells Ab An As Ar cb cn cs cr N) 29) = w0 at *
  refine (CV.out _ hB0.out).mono ?_
  rintro e w1 ⟨rfl, hb1⟩
  have HB1 : Hid (Below w0.heap.size w0 w1) := Lib.hid hb1
  have HBw1 := Lib.hid (hB0.out.trans (hb1.mono (Nat.le_of_lt hsz0)))
  clear x0 x1 x2 x3 x4 x5 x6 x7 hb1 CV
  obtain ⟨_, _, x2, _, _, _, _, _⟩ := HX.out.keep hsz0 HB1.out
  obtain ⟨b, o, rfl, hbl, hs⟩ := HS.out.spur hlast
  obtain ⟨c0, c1, c2, c3, c4, c5⟩ := hs.keep hbl HBw1.out
  obtain ⟨lk, hlk⟩ : ∃ lk, lk = N.spurs.length - 1 := ⟨_, rfl⟩
  have hl1 : (N.spurs.length : Int) - 1 = (lk : Int) := by omega
  have hw1 : IntKind.i64.wrap ((N.spurs.length : Int) - 1) = (lk : Int) := by rw [← hl1]; exact IntWalk.i64_in _ (by omega)
  have hlt : lk < N.spurs.length := by omega
  clear hs
  generalize N.spurs[N.spurs.length - 1] = s at *
  rw [← hlk] at c0 c1 c2 c3 c4 c5
  obtain ⟨nm, dp, si, so, sw, sb⟩ := s
  simp only at c0 c1 c2 c3 c4 c5 hbd HE
  have CH := Lib.hid (fun W => headOf_c nm dp si so sw sb W (by omega) (by omega))
  have hw2 : IntKind.i64.wrap (sb + sw - 1 + 1) = sb + sw - 1 + 1 := IntWalk.i64_in _ (by omega)
  clear hlk hl1 hlast
  go_wp2_with fail
  refine (CH.out _).mono ?_
  rintro e w2 ⟨rfl, hb2⟩
  have HB2 := Lib.hid (HBw1.out.trans (hb2.mono HBw1.out.size))
  clear hb2
  go_wp2
  go_ret2
  have h := HE.out
  have h' : cellsN N = sb + sw := by omega
  first
  | exact ⟨(by rw [h] : Ending.returned (.tuple #[.int .i64 (sb + sw - 1 + 1), .int .i64 0]) = .returned (.tuple #[.int .i64 (cellsN N), .int .i64 0])), HB2.out⟩
  | exact ⟨(by rw [h'] : Ending.returned (.tuple #[.int .i64 (sb + sw), .int .i64 0]) = .returned (.tuple #[.int .i64 (cellsN N), .int .i64 0])), HB2.out⟩
theorem isSpur_c (Ab An As Ar : Option Addr) (cb cn cs cr k : Nat) (N : NetD) (w : World) (hk : k < N.spurs.length) :
    Calls Try.prog 33 #[.agg #[.slice Ab N.blocks.length cb, .slice An N.next.length cn, .slice As N.spurs.length cs, .slice Ar N.robots.length cr, Iv N.queue, Iv N.aging, Iv N.detours, Iv N.patience], .int .i64 k] w fun e w' => e = .returned (.bool true) ∧ Below w.heap.size w w' := by
  have hB0 := Lib.hid ((Below.refl w.heap.size w).alloc (Nat.le_refl _) (.cells (netCells Ab An As Ar cb cn cs cr N) 29))
  obtain ⟨_, _, x2, _⟩ := boxAt_of (heap_alloc_new w (.cells (netCells Ab An As Ar cb cn cs cr N) 29))
  go_enter Try.func33, Try.ntmps33
  go_wp2
  go_ret
  exact ⟨rfl, hB0.out⟩
end Go.Proofs.Ytcpoojlhfebcmaa
