/- Contracts of the reference's Cells of layer 3, Open of layer 9 and Slots of layer 10. -/
import Derived.Test.YtjbhmeeebacnpaaNtMem
namespace Go.Proofs.Ytjbhmeeebacnpaa
open Go Go.RowKit Fl

def cellsN (N : NetD) : Int := N.blocks.length + slotsK N.spurs N.spurs.length
/-- Slots are few. -/
def fewSlots (N : NetD) : Prop := N.blocks.length ≤ 24 ∧ N.spurs.length ≤ 6 ∧ ∀ s ∈ N.spurs, 0 ≤ s.slots ∧ s.slots ≤ 4
set_option maxRecDepth 100000 in
set_option maxHeartbeats 2000000 in
theorem cells_c (Ab An As Ar : Option Addr) (cb cn cs cr : Nat) (N : NetD) (w : World) (hN : NetAt w Ab An As Ar N) (hf : fewSlots N) :
    Calls Try.prog 9 #[.agg #[.slice Ab N.blocks.length cb, .slice An N.next.length cn, .slice As N.spurs.length cs, .slice Ar N.robots.length cr, Iv N.queue, Iv N.aging, Iv N.detours, Iv N.patience]] w fun e w' => e = .returned (.int .i64 (cellsN N)) ∧ Below w.heap.size w w' := by
  obtain ⟨f1, f2, f3⟩ := hf
  have HS := Lib.hid hN.spurs
  have HB := Lib.hid (slotsK_bounds f3)
  have hB : Below w.heap.size w (w.alloc (.cells (netCells Ab An As Ar cb cn cs cr N) 29)) := (Below.refl _ _).alloc (Nat.le_refl _) _
  have hX := boxAt_of (heap_alloc_new w (.cells (netCells Ab An As Ar cb cn cs cr N) 29))
  obtain ⟨x0, _, x2, _⟩ := hX
  have HC : Hid (cellsN N = N.blocks.length + slotsK N.spurs N.spurs.length) := Lib.hid rfl
  have F3 := Lib.hid f3
  clear hN f3
  generalize cellsN N = res at *
  go_enter Try.func9, Try.ntmps9
  go_wp2
  generalize w.alloc (.cells (netCells Ab An As Ar cb cn cs cr N) 29) = w0 at *
  generalize N.spurs = l at *
  go_loop [3, 4] (fun c i => ∃ (k : Nat) (z : Int), i = .int .i64 k ∧ k ≤ l.length ∧ c = .int .i64 z ∧ Hid (z = N.blocks.length + slotsK l k) ∧ 0 ≤ z ∧ z ≤ 24 + 4 * k) (fun _ i => l.length - (intOf i).toNat)
  case atStart => exact ⟨0, _, rfl, Nat.zero_le _, rfl, Lib.hid (by simp [slotsK]), by omega, by omega⟩
  case round =>
    obtain ⟨k, z, rfl, hk, rfl, HZ, hz0, hz1⟩ := hrel
    by_cases hlt : k < l.length
    · obtain ⟨b, o, rfl, hbw, hs⟩ := HS.out.spur hlt
      have hs0 := hs.keep hbw hB
      have c4 := hs0.c4
      have HZ2 := Lib.hid (slotsK_succ hlt)
      have hsl := F3.out _ (List.getElem_mem hlt)
      clear hs hs0
      generalize l[k] = s at *
      obtain ⟨nm, dp, i, ot, sl, bs⟩ := s
      simp only at c4 HZ2 hsl
      go_wp2
      go_round
      case rel => exact ⟨k + 1, z + sl, by go_num, by omega, rfl, Lib.hid (by rw [HZ2.out, HZ.out]; omega), by omega, by omega⟩
      case measure => simp [intOf]; omega
    · obtain rfl : k = l.length := by omega
      have HE : Hid (z = res) := Lib.hid (by rw [HC.out, HZ.out])
      go_wp2
      go_ret
      exact ⟨gr_int HE.out, hB⟩
/-- A spur is open. -/
def openS (s : List Bool) (x : SpurD) : Bool := !(atB s x.inn.toNat || atB s x.out.toNat) && !((List.range x.slots.toNat).any (fun j => atB s (x.base.toNat + j)))
theorem atB_get {s : List Bool} {v : Nat} (h : v < s.length) : atB s v = s[v] := by unfold atB; rw [List.getD_eq_getElem?_getD, List.getElem?_eq_getElem h]; rfl
set_option maxRecDepth 100000 in
set_option maxHeartbeats 4000000 in
theorem open_c (Ab An As Ar B : Option Addr) (cb cn cs cr d : Nat) (N : NetD) (s : List Bool) (k : Nat) (w : World) (hN : NetAt w Ab An As Ar N) (hs : Holds w B (s.map Bo)) (hk : k < N.spurs.length) (hsl : s.length ≤ 1000)
    (h1 : 0 ≤ N.spurs[k].inn ∧ N.spurs[k].inn < s.length) (h2 : 0 ≤ N.spurs[k].out ∧ N.spurs[k].out < s.length) (h3 : 0 ≤ N.spurs[k].base ∧ 0 ≤ N.spurs[k].slots ∧ N.spurs[k].base + N.spurs[k].slots ≤ s.length) :
    Calls Try.prog 72 #[.agg #[.slice Ab N.blocks.length cb, .slice An N.next.length cn, .slice As N.spurs.length cs, .slice Ar N.robots.length cr, Iv N.queue, Iv N.aging, Iv N.detours, Iv N.patience], .slice B s.length d, .int .i64 k] w fun e w' => e = .returned (.bool (openS s N.spurs[k])) ∧ Below w.heap.size w w' := by
  obtain ⟨b, o, rfl, hbw, hsp⟩ := hN.spurs.spur hk
  have hB : Below w.heap.size w (w.alloc (.cells (netCells Ab An (some ⟨b, o, none⟩) Ar cb cn cs cr N) 29)) := (Below.refl _ _).alloc (Nat.le_refl _) _
  have hX := boxAt_of (heap_alloc_new w (.cells (netCells Ab An (some ⟨b, o, none⟩) Ar cb cn cs cr N) 29))
  obtain ⟨_, _, x2, _⟩ := hX
  obtain ⟨c0, c1, c2, c3, c4, c5⟩ := hsp.keep hbw hB
  have HR : Hid (openS s N.spurs[k] = (!(atB s N.spurs[k].inn.toNat || atB s N.spurs[k].out.toNat) && !((List.range N.spurs[k].slots.toNat).any (fun j => atB s (N.spurs[k].base.toNat + j))))) := Lib.hid rfl
  generalize openS s N.spurs[k] = res at *
  generalize N.spurs[k] = x at *
  obtain ⟨nm, dp, i, ot, sl, bs⟩ := x
  simp only at c0 c1 c2 c3 c4 c5 HR h1 h2 h3
  obtain ⟨i, rfl⟩ := Int.eq_ofNat_of_zero_le h1.1
  obtain ⟨ot, rfl⟩ := Int.eq_ofNat_of_zero_le h2.1
  obtain ⟨bs, rfl⟩ := Int.eq_ofNat_of_zero_le h3.1
  obtain ⟨sl, rfl⟩ := Int.eq_ofNat_of_zero_le h3.2.1
  have hi : i < s.length := by omega
  have ho : ot < s.length := by omega
  have hbsl : bs + sl ≤ s.length := by omega
  simp only [Int.toNat_natCast] at HR
  rw [atB_get hi, atB_get ho] at HR
  obtain ⟨br, or_, rfl, ei⟩ := (hs.keep hB).bo hi
  obtain ⟨br2, or2, hBeq, eo⟩ := (hs.keep hB).bo ho
  injection hBeq with hBeq
  injection hBeq with hB1 hB2
  subst hB1 hB2
  have HS := Lib.hid (hs.keep hB)
  have HBl := Lib.hid hB
  have hbr : br < (w.alloc (.cells (netCells Ab An (some ⟨b, o, none⟩) Ar cb cn cs cr N) 29)).heap.size := World.block_lt_of_cell? _ _ ei
  have eia : ∀ ob, ((w.alloc (.cells (netCells Ab An (some ⟨b, o, none⟩) Ar cb cn cs cr N) 29)).alloc ob).cell? ⟨br, or_ + i, none⟩ = some (.bool s[i]) := fun ob => (((Below.refl _ _).alloc (Nat.le_refl _) ob).cell (p := ⟨br, or_ + i, none⟩) hbr).trans ei
  have eoa : ∀ ob, ((w.alloc (.cells (netCells Ab An (some ⟨b, o, none⟩) Ar cb cn cs cr N) 29)).alloc ob).cell? ⟨br, or_ + ot, none⟩ = some (.bool s[ot]) := fun ob => (((Below.refl _ _).alloc (Nat.le_refl _) ob).cell (p := ⟨br, or_ + ot, none⟩) hbr).trans eo
  clear hN hs hsp h1 h2 h3 hB ei eo hbr
  have hcase : (s[i] = true ∨ s[i] = false ∧ s[ot] = true) ∨ s[i] = false ∧ s[ot] = false := by
    rcases s[i] with _ | _ <;> rcases s[ot] with _ | _ <;> simp
  rcases hcase with hor | ⟨q1, q2⟩
  · have HF : Hid (res = false) := Lib.hid (by
      rw [HR.out]
      rcases hor with h | ⟨h, h'⟩
      · rw [h]; simp
      · rw [h, h']; simp)
    clear HR
    generalize s[i] = si at *
    generalize s[ot] = so at *
    rcases hor with rfl | ⟨rfl, rfl⟩
    all_goals
      go_enter Try.func72, Try.ntmps72
      go_wp2
      go_ret
      exact ⟨gr_bool HF.out.symm, HBl.out.alloc HBl.out.size _⟩
  · rw [q1, q2] at HR
    rw [q1] at eia
    rw [q2] at eoa
    have HR2 : Hid (res = !((List.range sl).any (fun j => atB s (bs + j)))) := Lib.hid (by rw [HR.out]; simp)
    clear HR q1 q2
    go_enter Try.func72, Try.ntmps72
    go_wp2
    go_loop [8] (fun c => ∃ (j : Nat), c = .int .i64 ((bs + j : Nat) : Int) ∧ j ≤ sl ∧ Hid (∀ i, i < j → atB s (bs + i) = false)) (fun c => bs + sl - (intOf c).toNat)
    case atStart => exact ⟨0, rfl, Nat.zero_le _, Lib.hid (fun i hi => by omega)⟩
    case round =>
      obtain ⟨j, rfl, hj, HA⟩ := hrel
      by_cases hlt : j < sl
      · have hbj : bs + j < s.length := by omega
        obtain ⟨br2, or2, hBeq, ej⟩ := HS.out.bo hbj
        injection hBeq with hBeq
        injection hBeq with hB1 hB2
        subst hB1 hB2
        have hbr : br < (w.alloc (.cells (netCells Ab An (some ⟨b, o, none⟩) Ar cb cn cs cr N) 29)).heap.size := World.block_lt_of_cell? _ _ ej
        have eja : ∀ ob, ((w.alloc (.cells (netCells Ab An (some ⟨b, o, none⟩) Ar cb cn cs cr N) 29)).alloc ob).cell? ⟨br, or_ + (bs + j), none⟩ = some (.bool s[bs + j]) := fun ob => (((Below.refl _ _).alloc (Nat.le_refl _) ob).cell (p := ⟨br, or_ + (bs + j), none⟩) hbr).trans ej
        have hlt2 : bs + j < bs + sl := by omega
        clear ej hbr
        rcases hsj : s[bs + j] with _ | _
        · rw [hsj] at eja
          have HA2 : Hid (∀ i, i < j + 1 → atB s (bs + i) = false) := Lib.hid (fun i hi => by
            rcases Nat.lt_succ_iff_lt_or_eq.1 hi with h | rfl
            · exact HA.out i h
            · rw [atB_get hbj, hsj])
          clear hsj HA
          go_wp2
          go_round
          case rel => exact ⟨j + 1, by go_num, by omega, HA2⟩
          case measure => simp [intOf]; omega
        · rw [hsj] at eja
          have HF : Hid (res = false) := Lib.hid (by
            rw [HR2.out]
            have : (List.range sl).any (fun j => atB s (bs + j)) = true := List.any_eq_true.2 ⟨j, by simpa using hlt, by rw [atB_get hbj, hsj]⟩
            rw [this]; rfl)
          clear hsj HA
          go_wp2
          go_ret
          exact ⟨gr_bool HF.out.symm, HBl.out.alloc HBl.out.size _⟩
      · have HF : Hid (res = true) := Lib.hid (by
          rw [HR2.out]
          have : (List.range sl).any (fun j => atB s (bs + j)) = false := by
            rw [List.any_eq_false]
            intro i hi
            rw [HA.out i (by have := List.mem_range.1 hi; omega)]
            simp
          rw [this]; rfl)
        have hge : bs + sl ≤ bs + j := by omega
        go_wp2
        go_ret
        exact ⟨gr_bool HF.out.symm, HBl.out.alloc HBl.out.size _⟩
end Go.Proofs.Ytjbhmeeebacnpaa
