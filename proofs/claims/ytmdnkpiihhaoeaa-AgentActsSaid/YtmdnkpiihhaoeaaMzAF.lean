/- Joined texts. -/
import Derived.Test.YtmdnkpiihhaoeaaMzAE
import Derived.WalkMore
import Derived.Deep.LoopGhost
import Derived.Lib.SliceRun
namespace Go.Proofs.Ytmdnkpiihhaoeaa
open Go Go.RowKit Fl

theorem headOf_c (nm : List UInt8) (dp : Bool) (si so sw sb : Int) (w : World) (h1 : 0 ≤ sw ∧ sw ≤ 1000) (h2 : 0 ≤ sb ∧ sb ≤ 1000) : Calls Try.prog 68 #[.agg #[Sv nm, Bo dp, Iv si, Iv so, Iv sw, Iv sb]] w fun e w' => e = .returned (.int .i64 (sb + sw - 1)) ∧ Below w.heap.size w w' := by
  have hB0 := Lib.hid ((Below.refl w.heap.size w).alloc (Nat.le_refl _) (.cells #[Sv nm, Bo dp, Iv si, Iv so, Iv sw, Iv sb] 66))
  have hw1 : IntKind.i64.wrap (sb + sw) = sb + sw := IntWalk.i64_in _ (by omega)
  have hw2 : IntKind.i64.wrap (sb + sw - 1) = sb + sw - 1 := IntWalk.i64_in _ (by omega)
  go_enter Try.func68, Try.ntmps68
  go_wp2
  go_ret
  exact ⟨rfl, hB0.out⟩
theorem NetOk.bounds {N : NetD} (hok : NetOk N) : ∀ s ∈ N.spurs, (1 ≤ s.slots ∧ s.slots ≤ 4) ∧ 0 ≤ s.base ∧ s.base ≤ 100 := fun s hs => by
  obtain ⟨k, hk, rfl⟩ := List.mem_iff_getElem.1 hs
  have h1 := (hok.spurOk _ hs).slots
  have h2 := hok.bases k hk
  have h3 := slotsK_bounds (l := N.spurs) (fun s hs => by have := (hok.spurOk s hs).slots; omega) k (by omega)
  have h4 := hok.few
  have h5 := hok.spurs6
  omega
set_option maxRecDepth 100000 in
set_option maxHeartbeats 4000000 in
theorem count_c (Ab An As Ar : Option Addr) (cb cn cs cr : Nat) (N : NetD) (w : World) (hN : NetAt w Ab An As Ar N) (hok : NetOk N) (hcr : N.robots.length ≤ cr) :
    Calls Try.prog 46 #[.agg #[.slice Ab N.blocks.length cb, .slice An N.next.length cn, .slice As N.spurs.length cs, .slice Ar N.robots.length cr, Iv N.queue, Iv N.aging, Iv N.detours, Iv N.patience]] w fun e w' => e = .returned (.tuple #[.int .i64 (cellsN N), .int .i64 0]) ∧ Below w.heap.size w w' := by
  have CV := Lib.hid (fun W (hW : Below w.heap.size w W) => netValid_c Ab An As Ar cb cn cs cr N W (hN.keep hW) hok hcr)
  have HS := Lib.hid hN.spurs
  have h6 := hok.spurs6
  have hpos : 0 < N.spurs.length := by
    obtain ⟨s, hs, _⟩ := hok.depot
    exact List.length_pos_of_mem hs
  have hlast : N.spurs.length - 1 < N.spurs.length := by omega
  have HE : Hid (cellsN N = N.spurs[N.spurs.length - 1].base + N.spurs[N.spurs.length - 1].slots - 1 + 1) := Lib.hid (by
    have h1 := hok.bases _ hlast
    have h2 := slotsK_succ hlast
    rw [show N.spurs.length - 1 + 1 = N.spurs.length by omega] at h2
    unfold cellsN
    omega)
  have hbd := hok.bounds _ (List.getElem_mem hlast)
  have hB0 := Lib.hid ((Below.refl w.heap.size w).alloc (Nat.le_refl _) (.cells (netCells Ab An As Ar cb cn cs cr N) 29))
  have HX := Lib.hid (boxAt_of (heap_alloc_new w (.cells (netCells Ab An As Ar cb cn cs cr N) 29)))
  have hsz0 : w.heap.size < (w.alloc (.cells (netCells Ab An As Ar cb cn cs cr N) 29)).heap.size := by simp
  obtain ⟨x0, x1, x2, x3, x4, x5, x6, x7⟩ := boxAt_of (heap_alloc_new w (.cells (netCells Ab An As Ar cb cn cs cr N) 29))
  clear hN hok
  go_enter Try.func46, Try.ntmps46
  go_wp2_with fail
  generalize w.alloc (.cells (netCells Ab An As Ar cb cn cs cr N) 29) = w0 at *
  refine (CV.out _ hB0.out).mono ?_
  rintro e w1 ⟨rfl, hb1⟩
  have HB1 : Hid (Below w0.heap.size w0 w1) := Lib.hid hb1
  have HBw1 := Lib.hid (hB0.out.trans (hb1.mono (Nat.le_of_lt hsz0)))
  clear x0 x1 x2 x3 x4 x5 x6 x7 hb1 CV
  obtain ⟨_, _, x2, _, _, _, _, _⟩ := HX.out.keep hsz0 HB1.out
  obtain ⟨b, o, rfl, hbl, hs⟩ := HS.out.spur hlast
  obtain ⟨c0, c1, c2, c3, c4, c5⟩ := hs.keep hbl HBw1.out
  obtain ⟨lk, hlk⟩ : ∃ lk, lk = N.spurs.length - 1 := ⟨_, rfl⟩
  have hl1 : (N.spurs.length : Int) - 1 = (lk : Int) := by omega
  have hw1 : IntKind.i64.wrap ((N.spurs.length : Int) - 1) = (lk : Int) := by rw [← hl1]; exact IntWalk.i64_in _ (by omega)
  have hlt : lk < N.spurs.length := by omega
  clear hs
  generalize N.spurs[N.spurs.length - 1] = s at *
  rw [← hlk] at c0 c1 c2 c3 c4 c5
  obtain ⟨nm, dp, si, so, sw, sb⟩ := s
  simp only at c0 c1 c2 c3 c4 c5 hbd HE
  have CH := Lib.hid (fun W => headOf_c nm dp si so sw sb W (by omega) (by omega))
  have hw2 : IntKind.i64.wrap (sb + sw - 1 + 1) = sb + sw - 1 + 1 := IntWalk.i64_in _ (by omega)
  clear hlk hl1 hlast
  go_wp2_with fail
  refine (CH.out _).mono ?_
  rintro e w2 ⟨rfl, hb2⟩
  have HB2 := Lib.hid (HBw1.out.trans (hb2.mono HBw1.out.size))
  clear hb2
  go_wp2
  go_ret2
  have h := HE.out
  have h' : cellsN N = sb + sw := by omega
  first
  | exact ⟨(by rw [h] : Ending.returned (.tuple #[.int .i64 (sb + sw - 1 + 1), .int .i64 0]) = .returned (.tuple #[.int .i64 (cellsN N), .int .i64 0])), HB2.out⟩
  | exact ⟨(by rw [h'] : Ending.returned (.tuple #[.int .i64 (sb + sw), .int .i64 0]) = .returned (.tuple #[.int .i64 (cellsN N), .int .i64 0])), HB2.out⟩
end Go.Proofs.Ytmdnkpiihhaoeaa
namespace Go.Proofs.Ytmdnkpiihhaoeaa
open Go Go.RowKit Fl

/-- The spur and the slot of a cell, among spurs that are numbered from k on. -/
def findS : List SpurD → Nat → Int → Int × Int
  | [], _, _ => (-1, 0)
  | x :: l, k, c => if x.base ≤ c ∧ c < x.base + x.slots then ((k : Int), c - x.base + 1) else findS l (k + 1) c
theorem findS_at {l : List SpurD} {k : Nat} {c : Int} (h : k < l.length) : findS (l.drop k) k c = if l[k].base ≤ c ∧ c < l[k].base + l[k].slots then ((k : Int), c - l[k].base + 1) else findS (l.drop (k + 1)) (k + 1) c := by
  rw [List.drop_eq_getElem_cons h]; rfl
theorem findS_end {l : List SpurD} {c : Int} : findS (l.drop l.length) l.length c = (-1, 0) := by
  rw [List.drop_length]; rfl
set_option maxRecDepth 100000 in
set_option maxHeartbeats 4000000 in
theorem find_c (As : Option Addr) (cs : Nat) (l : List SpurD) (c : Int) (w : World) (hS : Holds w As (spurCells l)) (h6 : l.length ≤ 6) (hb : ∀ x ∈ l, (1 ≤ x.slots ∧ x.slots ≤ 4) ∧ 0 ≤ x.base ∧ x.base ≤ 100) :
    Calls Try.prog 47 #[.slice As l.length cs, .int .i64 c] w fun e w' => e = .returned (.tuple #[.int .i64 (findS l 0 c).1, .int .i64 (findS l 0 c).2]) ∧ Below w.heap.size w w' := by
  have HS := Lib.hid hS
  have HBd := Lib.hid hb
  have HB0 := Lib.hid (Below.refl w.heap.size w)
  clear hS hb
  go_enter Try.func47, Try.ntmps47
  go_wp2
  go_step3
  go_wp2
  go_step3
  go_wp2
  go_loopg [6, 7, 13] l.length (fun g s6 s7 i wr => ∃ k : Nat, k + g = l.length ∧ s6 = .int .i64 (-1) ∧ s7 = .int .i64 0 ∧ i = .int .i64 k ∧ Hid (findS l 0 c = findS (l.drop k) k c) ∧ Hid (Below w.heap.size w wr))
  case atStart => exact ⟨0, by omega, rfl, rfl, rfl, Lib.hid (by simp), HB0⟩
  case round =>
    obtain ⟨k, hkg, rfl, rfl, rfl, HF, HBw⟩ := hrel
    by_cases hlt : k < l.length
    · obtain ⟨bp, op, rfl, hbp, hs⟩ := HS.out.spur hlt
      obtain ⟨c0, c1, c2, c3, c4, c5⟩ := hs.keep hbp HBw.out
      have hbd := HBd.out _ (List.getElem_mem hlt)
      have HA := Lib.hid (findS_at (c := c) hlt)
      clear hs
      generalize l[k] = x at *
      obtain ⟨nm, dp, xi, xo, xw, xb⟩ := x
      simp only at hbd c0 c1 c2 c3 c4 c5 HA
      obtain ⟨sw, rfl⟩ := Int.eq_ofNat_of_zero_le (show 0 ≤ xw by omega)
      obtain ⟨g, rfl⟩ : ∃ g, gk = g + 1 := ⟨gk - 1, by omega⟩
      have HY := Lib.hid (heap_alloc_new wr (.cells #[Sv nm, Bo dp, Iv xi, Iv xo, Iv sw, Iv xb] 66))
      have HB1 : Hid (Below w.heap.size w (wr.alloc (.cells #[Sv nm, Bo dp, Iv xi, Iv xo, Iv sw, Iv xb] 66))) := Lib.hid (HBw.out.alloc HBw.out.size _)
      have y5 : (wr.alloc (.cells #[Sv nm, Bo dp, Iv xi, Iv xo, Iv sw, Iv xb] 66)).cell? ⟨wr.heap.size, 5, none⟩ = some (Iv xb) := by rw [cell_of_row _ _ 5 _ _ _ HY.out]; rfl
      have hwa : ∀ m : Nat, m < sw → IntKind.i64.wrap (xb + (m : Int)) = xb + (m : Int) := fun m hm => IntWalk.i64_in _ (by omega)
      have HWa := Lib.hid hwa
      clear hwa
      go_wp2
      generalize wr.alloc (.cells #[Sv nm, Bo dp, Iv xi, Iv xo, Iv sw, Iv xb] 66) = w1 at *
      clear HY c0 c1 c2 c3 c4 c5
      go_loopg [6, 7, 20] sw (fun g2 s6 s7 j wy => ∃ m : Nat, m + g2 = sw ∧ s6 = .int .i64 (-1) ∧ s7 = .int .i64 0 ∧ j = .int .i64 m ∧ Hid (∀ i : Nat, i < m → xb + (i : Int) ≠ c) ∧ wy = w1)
      case atStart => exact ⟨0, by omega, rfl, rfl, rfl, Lib.hid (fun i hi => by omega), rfl⟩
      case round =>
        obtain ⟨m, hmg, rfl, rfl, rfl, HM, rfl⟩ := hrel
        by_cases hm : m < sw
        · obtain ⟨g2, rfl⟩ : ∃ g2, gk = g2 + 1 := ⟨gk - 1, by omega⟩
          have hw := HWa.out m hm
          by_cases hc : xb + (m : Int) = c
          · have HE : Hid (findS l 0 c = ((k : Int), (m : Int) + 1)) := Lib.hid (by
              rw [HF.out, HA.out, if_pos ⟨by omega, by omega⟩]
              congr 1
              omega)
            have hw2 : IntKind.i64.wrap ((m : Int) + 1) = (m : Int) + 1 := IntWalk.i64_in _ (by omega)
            clear HF HA HM
            go_wp2
            rw [Exit.noGoto_ret]
            go_ret2
            exact ⟨by rw [HE.out] <;> rfl, HB1.out⟩
          · have HM2 : Hid (∀ i : Nat, i < m + 1 → xb + (i : Int) ≠ c) := Lib.hid (fun i hi => by
              rcases Nat.lt_succ_iff_lt_or_eq.1 hi with h3 | rfl
              · exact HM.out i h3
              · exact hc)
            clear HM
            go_wp2
            go_roundg g2
            case measure => omega
            case rel => exact ⟨m + 1, by omega, rfl, rfl, by go_num, HM2, rfl⟩
        · obtain rfl : m = sw := by omega
          have HF2 : Hid (findS l 0 c = findS (l.drop (k + 1)) (k + 1) c) := Lib.hid (by
            rw [HF.out, HA.out, if_neg]
            intro h
            exact HM.out (c - xb).toNat (by omega) (by omega))
          clear HF HA HM
          go_wp2
          go_roundg g
          case measure => omega
          case rel => exact ⟨k + 1, by omega, rfl, rfl, by go_num, HF2, HB1⟩
    · obtain rfl : k = l.length := by omega
      have HE : Hid (findS l 0 c = (-1, 0)) := Lib.hid (by rw [HF.out, findS_end])
      clear HF
      go_wp2
      try rw [Exit.noGoto_ret]
      go_ret2
      exact ⟨by rw [HE.out] <;> rfl, HBw.out⟩
end Go.Proofs.Ytmdnkpiihhaoeaa
namespace Go.Proofs.Ytmdnkpiihhaoeaa
open Go Go.RowKit Fl

theorem findS_cases : ∀ (l : List SpurD) (k0 : Nat) (c : Int), (findS l k0 c = (-1, 0) ∧ ∀ x ∈ l, ¬ (x.base ≤ c ∧ c < x.base + x.slots)) ∨ ∃ k, ∃ h : k < l.length, l[k].base ≤ c ∧ c < l[k].base + l[k].slots ∧ findS l k0 c = (((k0 + k : Nat) : Int), c - l[k].base + 1)
  | [], _, _ => .inl ⟨rfl, fun x hx => by cases hx⟩
  | x :: l, k0, c => by
    by_cases h : x.base ≤ c ∧ c < x.base + x.slots
    · exact .inr ⟨0, by simp, h.1, h.2, by rw [findS, if_pos h]; rfl⟩
    · rcases findS_cases l (k0 + 1) c with ⟨h1, h2⟩ | ⟨k, hk, h1, h2, h3⟩
      · refine .inl ⟨by rw [findS, if_neg h]; exact h1, fun y hy => ?_⟩
        rcases List.mem_cons.1 hy with rfl | hy
        · exact h
        · exact h2 y hy
      · refine .inr ⟨k + 1, by simpa using hk, h1, h2, ?_⟩
        rw [findS, if_neg h, h3]
        simp only [List.getElem_cons_succ, Prod.mk.injEq, and_true]
        omega
theorem slotsK_mono {l : List SpurD} (h : ∀ s ∈ l, 0 ≤ s.slots) {j : Nat} : ∀ k, j ≤ k → k ≤ l.length → slotsK l j ≤ slotsK l k
  | 0, hj, _ => by obtain rfl : j = 0 := by omega
                   exact Int.le_refl _
  | k + 1, hj, hk => by
    rcases Nat.lt_or_ge j (k + 1) with h1 | h1
    · have ih := slotsK_mono h (j := j) k (by omega) (by omega)
      have := h _ (List.getElem_mem (show k < l.length by omega))
      rw [slotsK_succ (by omega)]
      omega
    · obtain rfl : j = k + 1 := by omega
      exact Int.le_refl _
theorem NetOk.slots0 {N : NetD} (hok : NetOk N) : ∀ s ∈ N.spurs, 0 ≤ s.slots := fun s hs => by have := (hok.spurOk s hs).slots; omega
/-- Spurs come one behind the other. -/
theorem NetOk.behind {N : NetD} (hok : NetOk N) {j k : Nat} (hj : j < k) (hk : k < N.spurs.length) : N.spurs[j].base + N.spurs[j].slots ≤ N.spurs[k].base := by
  have h1 := hok.bases j (by omega)
  have h2 := hok.bases k hk
  have h3 := slotsK_succ (show j < N.spurs.length by omega)
  have h4 := slotsK_mono hok.slots0 (j := j + 1) k (by omega) (by omega)
  omega
theorem NetOk.findIn {N : NetD} (hok : NetOk N) {k : Nat} (hk : k < N.spurs.length) {c : Int} (h1 : N.spurs[k].base ≤ c) (h2 : c < N.spurs[k].base + N.spurs[k].slots) : findS N.spurs 0 c = ((k : Int), c - N.spurs[k].base + 1) := by
  rcases findS_cases N.spurs 0 c with ⟨_, h⟩ | ⟨k', hk', g1, g2, h⟩
  · exact absurd ⟨h1, h2⟩ (h _ (List.getElem_mem hk))
  · rcases Nat.lt_trichotomy k k' with h3 | rfl | h3
    · have := hok.behind h3 hk'; omega
    · rw [h]; simp
    · have := hok.behind h3 hk; omega
theorem NetOk.findBlock {N : NetD} (hok : NetOk N) {c : Int} (hc : c < N.blocks.length) : findS N.spurs 0 c = (-1, 0) := by
  rcases findS_cases N.spurs 0 c with ⟨h, _⟩ | ⟨k, hk, g1, _, _⟩
  · exact h
  · have h1 := hok.bases k hk
    have h3 := slotsK_mono hok.slots0 (j := 0) k (by omega) (by omega)
    have h0 : slotsK N.spurs 0 = 0 := rfl
    omega
/-- A cell behind the blocks lies in a spur. -/
theorem slot_in {l : List SpurD} {c : Int} (h0 : ∀ s ∈ l, 0 ≤ s.slots) : ∀ k, k ≤ l.length → 0 ≤ c → c < slotsK l k → ∃ j, ∃ h : j < l.length, slotsK l j ≤ c ∧ c < slotsK l j + l[j].slots
  | 0, _, _, h => by have : slotsK l 0 = 0 := rfl
                     omega
  | k + 1, hk, hc, h => by
    by_cases h1 : c < slotsK l k
    · exact slot_in h0 k (by omega) hc h1
    · rw [slotsK_succ (by omega)] at h
      exact ⟨k, by omega, by omega, h⟩
theorem NetOk.inSpur {N : NetD} (hok : NetOk N) {c : Int} (h1 : (N.blocks.length : Int) ≤ c) (h2 : c < cellsN N) : ∃ k, ∃ h : k < N.spurs.length, N.spurs[k].base ≤ c ∧ c < N.spurs[k].base + N.spurs[k].slots := by
  have h5 : cellsN N = N.blocks.length + slotsK N.spurs N.spurs.length := rfl
  obtain ⟨k, hk, g1, g2⟩ := slot_in (c := c - N.blocks.length) hok.slots0 N.spurs.length (Nat.le_refl _) (by omega) (by omega)
  have := hok.bases k hk
  exact ⟨k, hk, by omega, by omega⟩
def inN (N : NetD) (c : Int) : Prop := 0 ≤ c ∧ c < cellsN N
instance (N : NetD) (c : Int) : Decidable (inN N c) := by unfold inN; infer_instance
def placeN (N : NetD) (c : Int) : Int × Int := if inN N c then findS N.spurs 0 c else (0, 0)
def rangeE (N : NetD) (c : Int) : Int := if inN N c then 0 else 19
set_option maxRecDepth 100000 in
set_option maxHeartbeats 4000000 in
theorem place_c (Ab An As Ar : Option Addr) (cb cn cs cr : Nat) (N : NetD) (c : Int) (w : World) (hN : NetAt w Ab An As Ar N) (hok : NetOk N) (hcr : N.robots.length ≤ cr) :
    Calls Try.prog 28 #[.agg #[.slice Ab N.blocks.length cb, .slice An N.next.length cn, .slice As N.spurs.length cs, .slice Ar N.robots.length cr, Iv N.queue, Iv N.aging, Iv N.detours, Iv N.patience], .int .i64 c] w fun e w' => e = .returned (.tuple #[.int .i64 (placeN N c).1, .int .i64 (placeN N c).2, .int .i64 (rangeE N c)]) ∧ Below w.heap.size w w' := by
  have CC := Lib.hid (fun W (hW : Below w.heap.size w W) => count_c Ab An As Ar cb cn cs cr N W (hN.keep hW) hok hcr)
  have CF := Lib.hid (fun W (hW : Below w.heap.size w W) => find_c As cs N.spurs c W ((hN.keep hW).spurs) hok.spurs6 hok.bounds)
  have hB0 := Lib.hid ((Below.refl w.heap.size w).alloc (Nat.le_refl _) (.cells (netCells Ab An As Ar cb cn cs cr N) 29))
  have HX := Lib.hid (boxAt_of (heap_alloc_new w (.cells (netCells Ab An As Ar cb cn cs cr N) 29)))
  have hsz0 : w.heap.size < (w.alloc (.cells (netCells Ab An As Ar cb cn cs cr N) 29)).heap.size := by simp
  obtain ⟨x0, x1, x2, x3, x4, x5, x6, x7⟩ := boxAt_of (heap_alloc_new w (.cells (netCells Ab An As Ar cb cn cs cr N) 29))
  obtain ⟨cN, hcN⟩ : ∃ cN, cN = cellsN N := ⟨_, rfl⟩
  have HIn : Hid (inN N c ↔ 0 ≤ c ∧ c < cN) := Lib.hid (by rw [hcN]; exact Iff.rfl)
  have HP : Hid (inN N c → placeN N c = findS N.spurs 0 c ∧ rangeE N c = 0) := Lib.hid (fun h => ⟨if_pos h, if_pos h⟩)
  have HQ : Hid (¬ inN N c → placeN N c = (0, 0) ∧ rangeE N c = 19) := Lib.hid (fun h => ⟨if_neg h, if_neg h⟩)
  rw [← hcN] at CC
  clear hN hok hcr hcN
  generalize findS N.spurs 0 c = fs at *
  obtain ⟨fa, fb⟩ := fs
  go_enter Try.func28, Try.ntmps28
  go_wp2_with fail
  generalize w.alloc (.cells (netCells Ab An As Ar cb cn cs cr N) 29) = w0 at *
  refine (CC.out _ hB0.out).mono ?_
  rintro e w1 ⟨rfl, hb1⟩
  have HB1 : Hid (Below w0.heap.size w0 w1) := Lib.hid hb1
  have HBw1 := Lib.hid (hB0.out.trans (hb1.mono (Nat.le_of_lt hsz0)))
  clear x0 x1 x2 x3 x4 x5 x6 x7 hb1 CC
  obtain ⟨_, _, x2, _, _, _, _, _⟩ := HX.out.keep hsz0 HB1.out
  have CF1 := Lib.hid (CF.out _ HBw1.out)
  clear CF
  by_cases h1 : c < 0
  · have HZ := Lib.hid (HQ.out (fun h => by have := HIn.out.1 h; omega))
    clear HP HQ HIn
    go_wp2
    go_ret3
    exact ⟨by rw [HZ.out.1, HZ.out.2] <;> rfl, HBw1.out⟩
  · by_cases h2 : cN ≤ c
    · have HZ := Lib.hid (HQ.out (fun h => by have := HIn.out.1 h; omega))
      clear HP HQ HIn
      go_wp2
      go_ret3
      exact ⟨by rw [HZ.out.1, HZ.out.2] <;> rfl, HBw1.out⟩
    · have HZ := Lib.hid (HP.out (HIn.out.2 ⟨by omega, by omega⟩))
      clear HP HQ HIn
      go_wp2_with fail
      refine CF1.out.mono ?_
      rintro e w2 ⟨rfl, hb2⟩
      have HB2 := Lib.hid (HBw1.out.trans (hb2.mono HBw1.out.size))
      clear hb2 CF1
      go_wp2
      go_ret3
      exact ⟨by rw [HZ.out.1, HZ.out.2] <;> rfl, HB2.out⟩
end Go.Proofs.Ytmdnkpiihhaoeaa
namespace Go.Proofs.Ytmdnkpiihhaoeaa
open Go Go.RowKit Fl

theorem own_down {w : World} {base base' : Nat} {e : TypeId} {size : Nat} {v : Value} {n : Nat} {xs : List Value} (h : w.ownsRow base e size v n xs) (hb : base' ≤ base) : w.ownsRow base' e size v n xs := by
  obtain ⟨h1, h2⟩ := h
  refine ⟨h1, ?_⟩
  rcases h2 with h2 | ⟨g, cap, cur, hv, hg, r⟩
  · exact .inl h2
  · exact .inr ⟨g, cap, cur, hv, by omega, r⟩
set_option maxRecDepth 100000 in
set_option maxHeartbeats 2000000 in
theorem cloneI_c (A : Option Addr) (c : Nat) (l : List Int) (w : World) (hh : Holds w A (l.map Iv)) (hl : l.length ≤ 24) :
    Calls Try.prog 48 #[.slice A l.length c] w fun e w' => ∃ u, e = .returned u ∧ w'.ownsRow w.heap.size 3 1 u l.length (l.map Iv) ∧ Below w.heap.size w w' := by
  have hq : ∀ (w : World) (a : Option Addr) (n c n' c' : Nat), (binOp .eql 25 (.slice a n c) (.slice none n' c')).run Try.prog w = .ok (.bool a.isNone) w := fun w a n c n' c' => Lib.run_eql_slice_nil w _ _ a n c n' c' Try.underlying25
  obtain ⟨i0, hi, hz0, hz1, hz2⟩ := info_parts Try.infoIntG
  rcases A with _ | ⟨b, o, p⟩
  · have hl0 : l = [] := by
      rcases hh with h | ⟨b', o', hA, _⟩
      · simpa using h
      · cases hA
    subst hl0
    have HB := Lib.hid (Below.refl w.heap.size w)
    clear hh
    go_enter Try.func48, Try.ntmps48
    go_wp2
    go_ret
    exact ⟨_, rfl, World.ownsRow_nil _ _ _ _, HB.out⟩
  · have HC : Hid (∀ (ob : Obj) j u, (l.map Iv)[j]? = some u → (w.alloc ob).cell? ((⟨b, o, p⟩ : Addr).add j) = some u) := Lib.hid (fun ob j u hu => by
      have hj : j < l.length := by have := (List.getElem?_eq_some_iff.1 hu).1; simpa using this
      obtain ⟨b', o', hA, he⟩ := hh.iv hj
      injection hA with hA
      injection hA with h1 h2 h3
      subst h1 h2 h3
      have hadd : (⟨b, o, none⟩ : Addr).add j = ⟨b, o + j, none⟩ := by simp [Addr.add]
      rw [hadd]
      have hlt : b < w.heap.size := World.block_lt_of_cell? _ _ he
      rw [((Below.refl w.heap.size w).alloc (Nat.le_refl _) ob).cell (p := ⟨b, o + j, none⟩) hlt, he]
      simpa [hj] using hu)
    clear hh
    go_enter Try.func48, Try.ntmps48
    go_wp2_with (at_builtin; refine wpList_append_own _ rfl _ _ 25 rfl w.heap.size 3 i0 (.int .i64 0) 1 8 Try.underlying25 hi hz0 hz1 hz2 rfl (by decide) _ _ _ rfl (World.ownsRow_made w #[] 0 (Nat.le_refl _) (Nat.zero_le _) rfl) ⟨b, o, p⟩ l.length c (l.map Iv) rfl ?qc1 ?qc2 ?qc3 ?qc4 ?qc5 ?qc6 ?_)
    case qc1 => simp
    case qc2 => exact HC.out _
    case qc3 => intro u hu; obtain ⟨x, _, rfl⟩ := List.mem_map.1 hu; rfl
    case qc4 => unfold maxLen; omega
    case qc5 => omega
    case qc6 => simp
    intro v' w1 hown hgrow hnil
    have HO : Hid (w1.ownsRow w.heap.size 3 1 v' l.length (l.map Iv)) := Lib.hid (by simpa using hown)
    have HB := Lib.hid (((Below.refl _ w).alloc (Nat.le_refl _) _).grown hgrow (by simp) (by intro k hk; simp [Value.ownBlock] at hk; omega))
    clear hown hgrow hnil
    go_wp2
    go_ret
    exact ⟨v', rfl, HO.out, HB.out⟩
/-- The first slots of the spurs that begin at a block. -/
def spurBases (l : List SpurD) (c : Int) : List Int := (l.filter (fun x => x.inn == c)).map (·.base)
theorem spurBases_succ {l : List SpurD} {k : Nat} {c : Int} (h : k < l.length) : spurBases (l.take (k + 1)) c = spurBases (l.take k) c ++ if l[k].inn = c then [l[k].base] else [] := by
  unfold spurBases
  rw [List.take_succ_eq_append_getElem h, List.filter_append, List.map_append]
  congr 1
  by_cases h1 : l[k].inn = c
  · rw [if_pos h1]; simp [h1]
  · rw [if_neg h1]; simp [h1]
theorem spurBases_few (l : List SpurD) (c : Int) : (spurBases l c).length ≤ l.length := by
  unfold spurBases
  rw [List.length_map]
  exact List.length_filter_le _ _
set_option maxRecDepth 100000 in
set_option maxHeartbeats 4000000 in
theorem nextOfBlock_c (Ab An As Ar : Option Addr) (cb cn cs cr b : Nat) (N : NetD) (w : World) (hN : NetAt w Ab An As Ar N) (hok : NetOk N) (hb : b < N.next.length) :
    Calls Try.prog 29 #[.agg #[.slice Ab N.blocks.length cb, .slice An N.next.length cn, .slice As N.spurs.length cs, .slice Ar N.robots.length cr, Iv N.queue, Iv N.aging, Iv N.detours, Iv N.patience], .int .i64 b] w fun e w' => ∃ u, e = .returned u ∧ w'.ownsRow w.heap.size 3 1 u (N.next[b] ++ spurBases N.spurs b).length ((N.next[b] ++ spurBases N.spurs b).map Iv) ∧ Below w.heap.size w w' := by
  have h6 := hok.spurs6
  have h4 := hok.outs _ (List.getElem_mem hb)
  obtain ⟨bn, on, A1, c1, rfl, hrow, hrow1⟩ := hN.next.one hb
  have hbn : bn < w.heap.size := World.block_lt_of_cell? _ _ hrow
  have CC := Lib.hid (fun W (hW : Below w.heap.size w W) => cloneI_c A1 c1 N.next[b] W (hrow1.keep hW) (by omega))
  have HS := Lib.hid hN.spurs
  have hB0 := Lib.hid ((Below.refl w.heap.size w).alloc (Nat.le_refl _) (.cells (netCells Ab (some ⟨bn, on, none⟩) As Ar cb cn cs cr N) 29))
  have HX := Lib.hid (boxAt_of (heap_alloc_new w (.cells (netCells Ab (some ⟨bn, on, none⟩) As Ar cb cn cs cr N) 29)))
  have hsz0 : w.heap.size < (w.alloc (.cells (netCells Ab (some ⟨bn, on, none⟩) As Ar cb cn cs cr N) 29)).heap.size := by simp
  obtain ⟨x0, x1, x2, x3, x4, x5, x6, x7⟩ := boxAt_of (heap_alloc_new w (.cells (netCells Ab (some ⟨bn, on, none⟩) As Ar cb cn cs cr N) 29))
  have r1 := (hB0.out.cell (p := ⟨bn, on + b, none⟩) hbn).trans hrow
  clear hN hok hrow hrow1
  generalize N.next[b] = row at *
  go_enter Try.func29, Try.ntmps29
  go_wp2_with fail
  generalize w.alloc (.cells (netCells Ab (some ⟨bn, on, none⟩) As Ar cb cn cs cr N) 29) = w0 at *
  refine (CC.out _ hB0.out).mono ?_
  rintro e w1 ⟨u, rfl, hu, hb1⟩
  have HO1 := Lib.hid hu
  have HB1 := Lib.hid hb1
  clear x0 x1 x2 x3 x4 x5 x6 x7 r1 hu hb1 CC
  obtain ⟨_, _, x2, _, _, _, _, _⟩ := HX.out.keep hsz0 HB1.out
  go_wp2
  have HSz : Hid (∀ W, Below w0.heap.size w0 W → Below w.heap.size w W) := Lib.hid (fun W hW => hB0.out.trans (hW.mono (Nat.le_of_lt hsz0)))
  clear x2
  go_loopw [5, 17] (fun v i wr => ∃ (k : Nat), i = .int .i64 k ∧ k ≤ N.spurs.length ∧ Hid (wr.ownsRow w0.heap.size 3 1 v (row ++ spurBases (N.spurs.take k) b).length ((row ++ spurBases (N.spurs.take k) b).map Iv)) ∧ Hid (Below w0.heap.size w0 wr)) (fun _ i _ => N.spurs.length - (intOf i).toNat)
  case atStart => exact ⟨0, rfl, Nat.zero_le _, Lib.hid (by simpa [spurBases] using HO1.out), HB1⟩
  case round =>
    clear HO1 HB1
    obtain ⟨k, rfl, hk, HO, HB⟩ := hrel
    by_cases hlt : k < N.spurs.length
    · obtain ⟨bp, op, hAs, hbp, hs⟩ := HS.out.spur hlt
      have HE := Lib.hid (spurBases_succ (c := (b : Int)) hlt)
      have HF := Lib.hid (spurBases_few (N.spurs.take k) (b : Int))
      subst hAs
      obtain ⟨c0, c1, c2, c3, c4, c5⟩ := hs.keep hbp (HSz.out _ HB.out)
      clear hs
      generalize N.spurs[k] = x at *
      obtain ⟨nm, dp, xi, xo, xw, xb⟩ := x
      simp only at c0 c1 c2 c3 c4 c5 HE
      have HB2 : Hid (∀ ob, Below w0.heap.size w0 (wr.alloc ob)) := Lib.hid (fun ob => HB.out.alloc HB.out.size ob)
      have HO2 : Hid (∀ ob, (wr.alloc ob).ownsRow w0.heap.size 3 1 u5 (row ++ spurBases (N.spurs.take k) b).length ((row ++ spurBases (N.spurs.take k) b).map Iv)) := Lib.hid (fun ob => HO.out.alloc ob)
      by_cases hin : xi = (b : Int)
      · have HE2 : Hid (row ++ spurBases (N.spurs.take (k + 1)) b = row ++ spurBases (N.spurs.take k) b ++ [xb]) := Lib.hid (by rw [HE.out, if_pos hin, List.append_assoc])
        subst hin
        have hl : (row ++ spurBases (N.spurs.take k) b).length ≤ 100 := by
          have := HF.out
          rw [List.length_take] at this
          rw [List.length_append]
          omega
        have hwz : w0.heap.size ≤ wr.heap.size := HB.out.size
        have hY := heap_alloc_new wr (.cells #[Sv nm, Bo dp, Iv b, Iv xo, Iv xw, Iv xb] 66)
        have hsz9 : wr.heap.size < (wr.alloc (.cells #[Sv nm, Bo dp, Iv b, Iv xo, Iv xw, Iv xb] 66)).heap.size := by simp
        have HB3 := Lib.hid (HB2.out (.cells #[Sv nm, Bo dp, Iv b, Iv xo, Iv xw, Iv xb] 66))
        have HO3 := Lib.hid (HO2.out (.cells #[Sv nm, Bo dp, Iv b, Iv xo, Iv xw, Iv xb] 66))
        have HY := Lib.hid hY
        clear HE HF HO HB HO2 HB2 hY
        go_upto_region 6 with fail
        generalize wr.alloc (.cells #[Sv nm, Bo dp, Iv b, Iv xo, Iv xw, Iv xb] 66) = w3 at *
        generalize row ++ spurBases (N.spurs.take k) b = xs at *
        have y5 : w3.cell? ⟨wr.heap.size, 5, none⟩ = some (Iv xb) := by rw [cell_of_row _ _ 5 _ _ _ HY.out]; rfl
        have hb3 := own_base HO3.out
        have hw3 : w0.heap.size ≤ w3.heap.size := HB3.out.size
        go_wp2_with (at_builtin; refine app_int _ rfl _ _ rfl w0.heap.size _ _ _ rfl (HO3.out.alloc _) w3.heap.size xb rfl (by simp [go_sem]) (by omega) (by simp; omega) ?_)
        intro v8 w8 own8 hg8
        have HB8 : Hid (Below w0.heap.size w0 w8) := Lib.hid ((HB3.out.alloc hw3 _).grown hg8 (by simp; omega) (fun k hk => hb3 k hk))
        have HO8 : Hid (w8.ownsRow w0.heap.size 3 1 v8 (row ++ spurBases (N.spurs.take (k + 1)) b).length ((row ++ spurBases (N.spurs.take (k + 1)) b).map Iv)) := Lib.hid (by rw [HE2.out, List.length_append, List.map_append]; exact own8)
        clear own8 hg8 hb3 HO3
        go_wp2
        go_roundw
        case rel => exact ⟨k + 1, by go_num, by omega, HO8, HB8⟩
        case measure => simp [intOf]; omega
      · have HE2 : Hid (row ++ spurBases (N.spurs.take (k + 1)) b = row ++ spurBases (N.spurs.take k) b) := Lib.hid (by rw [HE.out, if_neg hin, List.append_nil])
        clear HE HF HO HB
        go_wp2
        go_roundw
        case rel => exact ⟨k + 1, by go_num, by omega, Lib.hid (by rw [HE2.out]; exact HO2.out _), Lib.hid (HB2.out _)⟩
        case measure => simp [intOf]; omega
    · obtain rfl : k = N.spurs.length := by omega
      rw [List.take_length] at HO
      have HEnd := Lib.hid (HSz.out _ HB.out)
      have HO9 : Hid (wr.ownsRow w.heap.size 3 1 u5 (row ++ spurBases N.spurs b).length ((row ++ spurBases N.spurs b).map Iv)) := Lib.hid (own_down HO.out (Nat.le_of_lt hsz0))
      clear HO HB
      go_wp2
      go_ret
      exact ⟨_, rfl, HO9.out, HEnd.out⟩
theorem NetOk.cells_ge {N : NetD} (hok : NetOk N) : (N.blocks.length : Int) ≤ cellsN N := by
  have h3 := slotsK_mono hok.slots0 (j := 0) N.spurs.length (by omega) (Nat.le_refl _)
  have h0 : slotsK N.spurs 0 = 0 := rfl
  have h5 : cellsN N = N.blocks.length + slotsK N.spurs N.spurs.length := rfl
  omega
theorem NetOk.cell_lt {N : NetD} (hok : NetOk N) {k : Nat} (hk : k < N.spurs.length) : N.spurs[k].base + N.spurs[k].slots ≤ cellsN N := by
  have h3 := slotsK_mono hok.slots0 (j := k + 1) N.spurs.length (by omega) (Nat.le_refl _)
  have h5 : cellsN N = N.blocks.length + slotsK N.spurs N.spurs.length := rfl
  have h1 := hok.bases k hk
  have h2 := slotsK_succ hk
  omega
theorem NetOk.base_ge {N : NetD} (hok : NetOk N) {k : Nat} (hk : k < N.spurs.length) : (N.blocks.length : Int) ≤ N.spurs[k].base := by
  have h3 := slotsK_mono hok.slots0 (j := 0) k (by omega) (by omega)
  have h0 : slotsK N.spurs 0 = 0 := rfl
  have h1 := hok.bases k hk
  omega
theorem NetOk.placeB {N : NetD} (hok : NetOk N) {b : Nat} (hb : b < N.blocks.length) : placeN N b = (-1, 0) ∧ rangeE N b = 0 := by
  have h := hok.cells_ge
  have hin : inN N b := ⟨by omega, by omega⟩
  exact ⟨by rw [placeN, if_pos hin]; exact hok.findBlock (by omega), if_pos hin⟩
theorem NetOk.placeS {N : NetD} (hok : NetOk N) {k : Nat} (hk : k < N.spurs.length) {c : Int} (h1 : N.spurs[k].base ≤ c) (h2 : c < N.spurs[k].base + N.spurs[k].slots) : placeN N c = ((k : Int), c - N.spurs[k].base + 1) ∧ rangeE N c = 0 := by
  have h := hok.cell_lt hk
  have h' := hok.base_ge hk
  have hin : inN N c := ⟨by omega, by omega⟩
  exact ⟨by rw [placeN, if_pos hin]; exact hok.findIn hk h1 h2, if_pos hin⟩
/-- A list of cells is returned in a row of the call's own. -/
def NextPost2 (w : World) (xs : List Int) (e : Ending) (w' : World) : Prop := ∃ u, e = .returned (.tuple #[u, .int .i64 0]) ∧ w'.ownsRow w.heap.size 3 1 u xs.length (xs.map Iv) ∧ Below w.heap.size w w'
set_option maxRecDepth 100000 in
set_option maxHeartbeats 4000000 in
theorem nextB_c (Ab An As Ar : Option Addr) (cb cn cs cr b : Nat) (N : NetD) (w : World) (hN : NetAt w Ab An As Ar N) (hok : NetOk N) (hcr : N.robots.length ≤ cr) (hb : b < N.blocks.length) (hb' : b < N.next.length) :
    Calls Try.prog 12 #[.agg #[.slice Ab N.blocks.length cb, .slice An N.next.length cn, .slice As N.spurs.length cs, .slice Ar N.robots.length cr, Iv N.queue, Iv N.aging, Iv N.detours, Iv N.patience], .int .i64 b] w (NextPost2 w (N.next[b] ++ spurBases N.spurs b)) := by
  obtain ⟨q1, q2⟩ := hok.placeB hb
  have CP := Lib.hid (fun W (hW : Below w.heap.size w W) => by
    have h := place_c Ab An As Ar cb cn cs cr N b W (hN.keep hW) hok hcr
    rw [q1, q2] at h
    exact h)
  have CN := Lib.hid (fun W (hW : Below w.heap.size w W) => nextOfBlock_c Ab An As Ar cb cn cs cr b N W (hN.keep hW) hok hb')
  have hB0 := Lib.hid ((Below.refl w.heap.size w).alloc (Nat.le_refl _) (.cells (netCells Ab An As Ar cb cn cs cr N) 29))
  have HX := Lib.hid (boxAt_of (heap_alloc_new w (.cells (netCells Ab An As Ar cb cn cs cr N) 29)))
  have hsz0 : w.heap.size < (w.alloc (.cells (netCells Ab An As Ar cb cn cs cr N) 29)).heap.size := by simp
  obtain ⟨x0, x1, x2, x3, x4, x5, x6, x7⟩ := boxAt_of (heap_alloc_new w (.cells (netCells Ab An As Ar cb cn cs cr N) 29))
  clear hN hok hcr q1 q2
  generalize N.next[b] ++ spurBases N.spurs b = xs at *
  go_enter Try.func12, Try.ntmps12
  go_wp2_with fail
  generalize w.alloc (.cells (netCells Ab An As Ar cb cn cs cr N) 29) = w0 at *
  refine (CP.out _ hB0.out).mono ?_
  rintro e w1 ⟨rfl, hb1⟩
  have HB1 : Hid (Below w0.heap.size w0 w1) := Lib.hid hb1
  have HBw1 := Lib.hid (hB0.out.trans (hb1.mono (Nat.le_of_lt hsz0)))
  clear x0 x1 x2 x3 x4 x5 x6 x7 hb1 CP
  obtain ⟨x0, x1, x2, x3, x4, x5, x6, x7⟩ := HX.out.keep hsz0 HB1.out
  have CN1 := Lib.hid (CN.out _ HBw1.out)
  clear CN
  go_wp2_with fail
  refine CN1.out.mono ?_
  rintro e w2 ⟨u, rfl, hu, hb2⟩
  have HU := Lib.hid (own_down hu HBw1.out.size)
  have HB2 := Lib.hid (HBw1.out.trans (hb2.mono HBw1.out.size))
  clear hb2 hu CN1 x0 x1 x2 x3 x4 x5 x6 x7
  go_wp2
  go_ret2
  exact ⟨_, rfl, HU.out, HB2.out⟩
set_option maxRecDepth 100000 in
set_option maxHeartbeats 4000000 in
theorem nextS_c (Ab An As Ar : Option Addr) (cb cn cs cr k : Nat) (N : NetD) (c : Int) (w : World) (hN : NetAt w Ab An As Ar N) (hok : NetOk N) (hcr : N.robots.length ≤ cr) (hk : k < N.spurs.length) (h1 : N.spurs[k].base ≤ c) (h2 : c < N.spurs[k].base + N.spurs[k].slots) :
    Calls Try.prog 12 #[.agg #[.slice Ab N.blocks.length cb, .slice An N.next.length cn, .slice As N.spurs.length cs, .slice Ar N.robots.length cr, Iv N.queue, Iv N.aging, Iv N.detours, Iv N.patience], .int .i64 c] w (NextPost2 w [if c + 1 < N.spurs[k].base + N.spurs[k].slots then c + 1 else N.spurs[k].out]) := by
  obtain ⟨q1, q2⟩ := hok.placeS hk h1 h2
  have CP := Lib.hid (fun W (hW : Below w.heap.size w W) => by
    have h := place_c Ab An As Ar cb cn cs cr N c W (hN.keep hW) hok hcr
    rw [q1, q2] at h
    exact h)
  have hbd := hok.bounds _ (List.getElem_mem hk)
  obtain ⟨bp, op, rfl, hbp, hsp⟩ := hN.spurs.spur hk
  have HSp : Hid (∀ W, Below w.heap.size w W → SpurAt W bp (op + k * 6) N.spurs[k]) := Lib.hid (fun W hW => hsp.keep hbp hW)
  have h6 := hok.spurs6
  have hB0 := Lib.hid ((Below.refl w.heap.size w).alloc (Nat.le_refl _) (.cells (netCells Ab An (some ⟨bp, op, none⟩) Ar cb cn cs cr N) 29))
  have HX := Lib.hid (boxAt_of (heap_alloc_new w (.cells (netCells Ab An (some ⟨bp, op, none⟩) Ar cb cn cs cr N) 29)))
  have hsz0 : w.heap.size < (w.alloc (.cells (netCells Ab An (some ⟨bp, op, none⟩) Ar cb cn cs cr N) 29)).heap.size := by simp
  obtain ⟨x0, x1, x2, x3, x4, x5, x6, x7⟩ := boxAt_of (heap_alloc_new w (.cells (netCells Ab An (some ⟨bp, op, none⟩) Ar cb cn cs cr N) 29))
  clear hN hok hcr hsp q1 q2
  generalize N.spurs[k] = x at *
  obtain ⟨nm, dp, si, so, sw, sb⟩ := x
  simp only at hbd HSp h1 h2
  have hw1 : IntKind.i64.wrap (c + 1) = c + 1 := IntWalk.i64_in _ (by omega)
  generalize hnx : (if c + 1 < sb + sw then c + 1 else so) = nx at *
  go_enter Try.func12, Try.ntmps12
  go_wp2_with fail
  generalize w.alloc (.cells (netCells Ab An (some ⟨bp, op, none⟩) Ar cb cn cs cr N) 29) = w0 at *
  refine (CP.out _ hB0.out).mono ?_
  rintro e w1 ⟨rfl, hb1⟩
  have HB1 : Hid (Below w0.heap.size w0 w1) := Lib.hid hb1
  have HBw1 := Lib.hid (hB0.out.trans (hb1.mono (Nat.le_of_lt hsz0)))
  clear x0 x1 x2 x3 x4 x5 x6 x7 hb1 CP
  obtain ⟨x0, x1, x2, x3, x4, x5, x6, x7⟩ := HX.out.keep hsz0 HB1.out
  obtain ⟨c0, c1, c2, c3, c4, c5⟩ := HSp.out _ HBw1.out
  simp only at c0 c1 c2 c3 c4 c5
  have hsz1 := HBw1.out.size
  by_cases hl : c + 1 < sb + sw
  · rw [if_pos hl] at hnx
    subst hnx
    have hlt : c - sb + 1 < sw := by omega
    clear hl
    go_wp2
    go_ret2
    refine ⟨_, rfl, ?_, HBw1.out.alloc hsz1 _⟩
    exact World.ownsRow_lit w1 #[Iv (c + 1)] 1 hsz1 (by unfold maxLen; omega) rfl
  · rw [if_neg hl] at hnx
    subst hnx
    have hlt : ¬ (c - sb + 1 < sw) := by omega
    clear hl
    go_wp2
    go_ret2
    refine ⟨_, rfl, ?_, HBw1.out.alloc hsz1 _⟩
    exact World.ownsRow_lit w1 #[Iv so] 1 hsz1 (by unfold maxLen; omega) rfl
set_option maxRecDepth 100000 in
set_option maxHeartbeats 4000000 in
theorem follows_c (Ab An As Ar : Option Addr) (cb cn cs cr : Nat) (N : NetD) (c z : Int) (xs : List Int) (w : World) (hxs : xs.length ≤ 24) (CN : ∀ W, Below w.heap.size w W → Calls Try.prog 12 #[.agg #[.slice Ab N.blocks.length cb, .slice An N.next.length cn, .slice As N.spurs.length cs, .slice Ar N.robots.length cr, Iv N.queue, Iv N.aging, Iv N.detours, Iv N.patience], .int .i64 c] W (NextPost2 W xs)) :
    Calls Try.prog 24 #[.agg #[.slice Ab N.blocks.length cb, .slice An N.next.length cn, .slice As N.spurs.length cs, .slice Ar N.robots.length cr, Iv N.queue, Iv N.aging, Iv N.detours, Iv N.patience], .int .i64 c, .int .i64 z] w fun e w' => e = .returned (.bool (decide (z ∈ xs))) ∧ Below w.heap.size w w' := by
  have HCN := Lib.hid CN
  have HXs := Lib.hid hxs
  have hB0 := Lib.hid ((Below.refl w.heap.size w).alloc (Nat.le_refl _) (.cells (netCells Ab An As Ar cb cn cs cr N) 29))
  have hsz0 : w.heap.size < (w.alloc (.cells (netCells Ab An As Ar cb cn cs cr N) 29)).heap.size := by simp
  obtain ⟨x0, x1, x2, x3, x4, x5, x6, x7⟩ := boxAt_of (heap_alloc_new w (.cells (netCells Ab An As Ar cb cn cs cr N) 29))
  clear CN hxs
  go_enter Try.func24, Try.ntmps24
  go_wp2_with fail
  generalize w.alloc (.cells (netCells Ab An As Ar cb cn cs cr N) 29) = w0 at *
  refine (HCN.out _ hB0.out).mono ?_
  rintro e w1 ⟨u, rfl, hu, hb1⟩
  obtain ⟨A, cc, rfl, hh⟩ := own_is hu
  have HBw1 := Lib.hid (hB0.out.trans (hb1.mono (Nat.le_of_lt hsz0)))
  have CQ := Lib.hid (contains_c A cc xs z w1 hh HXs.out)
  clear hu hh x0 x1 x2 x3 x4 x5 x6 x7 hb1 HCN
  go_wp2_with fail
  refine CQ.out.mono ?_
  rintro e w2 ⟨rfl, rfl⟩
  go_wp2
  go_ret
  exact ⟨rfl, HBw1.out⟩
end Go.Proofs.Ytmdnkpiihhaoeaa
