/- Joined texts. -/
import Derived.Test.YtjbhmeeebacnpaaMzAB
import Derived.Test.YtjbhmeeebacnpaaMzAA
import Derived.Test.YtjbhmeeebacnpaaChecked
import Derived.WalkKit
import Derived.ProofKit
import Derived.BigQuiet
import Derived.Lib.Hide
import Derived.Deep.QuietTactic
namespace Go.Proofs.Ytjbhmeeebacnpaa
open Go Go.RowKit Fl

def cellsN (N : NetD) : Int := N.blocks.length + slotsK N.spurs N.spurs.length
/-- Slots are few. -/
def fewSlots (N : NetD) : Prop := N.blocks.length ≤ 24 ∧ N.spurs.length ≤ 6 ∧ ∀ s ∈ N.spurs, 0 ≤ s.slots ∧ s.slots ≤ 4
set_option maxRecDepth 100000 in
set_option maxHeartbeats 2000000 in
theorem cells_c (Ab An As Ar : Option Addr) (cb cn cs cr : Nat) (N : NetD) (w : World) (hN : NetAt w Ab An As Ar N) (hf : fewSlots N) :
    Calls Try.prog 9 #[.agg #[.slice Ab N.blocks.length cb, .slice An N.next.length cn, .slice As N.spurs.length cs, .slice Ar N.robots.length cr, Iv N.queue, Iv N.aging, Iv N.detours, Iv N.patience]] w fun e w' => e = .returned (.int .i64 (cellsN N)) ∧ Below w.heap.size w w' := by
  obtain ⟨f1, f2, f3⟩ := hf
  have HS := Lib.hid hN.spurs
  have HB := Lib.hid (slotsK_bounds f3)
  have hB : Below w.heap.size w (w.alloc (.cells (netCells Ab An As Ar cb cn cs cr N) 29)) := (Below.refl _ _).alloc (Nat.le_refl _) _
  have hX := boxAt_of (heap_alloc_new w (.cells (netCells Ab An As Ar cb cn cs cr N) 29))
  obtain ⟨x0, _, x2, _⟩ := hX
  have HC : Hid (cellsN N = N.blocks.length + slotsK N.spurs N.spurs.length) := Lib.hid rfl
  have F3 := Lib.hid f3
  clear hN f3
  generalize cellsN N = res at *
  go_enter Try.func9, Try.ntmps9
  go_wp2
  generalize w.alloc (.cells (netCells Ab An As Ar cb cn cs cr N) 29) = w0 at *
  generalize N.spurs = l at *
  go_loop [3, 4] (fun c i => ∃ (k : Nat) (z : Int), i = .int .i64 k ∧ k ≤ l.length ∧ c = .int .i64 z ∧ Hid (z = N.blocks.length + slotsK l k) ∧ 0 ≤ z ∧ z ≤ 24 + 4 * k) (fun _ i => l.length - (intOf i).toNat)
  case atStart => exact ⟨0, _, rfl, Nat.zero_le _, rfl, Lib.hid (by simp [slotsK]), by omega, by omega⟩
  case round =>
    obtain ⟨k, z, rfl, hk, rfl, HZ, hz0, hz1⟩ := hrel
    by_cases hlt : k < l.length
    · obtain ⟨b, o, rfl, hbw, hs⟩ := HS.out.spur hlt
      have hs0 := hs.keep hbw hB
      have c4 := hs0.c4
      have HZ2 := Lib.hid (slotsK_succ hlt)
      have hsl := F3.out _ (List.getElem_mem hlt)
      clear hs hs0
      generalize l[k] = s at *
      obtain ⟨nm, dp, i, ot, sl, bs⟩ := s
      simp only at c4 HZ2 hsl
      go_wp2
      go_round
      case rel => exact ⟨k + 1, z + sl, by go_num, by omega, rfl, Lib.hid (by rw [HZ2.out, HZ.out]; omega), by omega, by omega⟩
      case measure => simp [intOf]; omega
    · obtain rfl : k = l.length := by omega
      have HE : Hid (z = res) := Lib.hid (by rw [HC.out, HZ.out])
      go_wp2
      go_ret
      exact ⟨gr_int HE.out, hB⟩
/-- A spur is open. -/
def openS (s : List Bool) (x : SpurD) : Bool := !(atB s x.inn.toNat || atB s x.out.toNat) && !((List.range x.slots.toNat).any (fun j => atB s (x.base.toNat + j)))
theorem atB_get {s : List Bool} {v : Nat} (h : v < s.length) : atB s v = s[v] := by unfold atB; rw [List.getD_eq_getElem?_getD, List.getElem?_eq_getElem h]; rfl
set_option maxRecDepth 100000 in
set_option maxHeartbeats 4000000 in
theorem open_c (Ab An As Ar B : Option Addr) (cb cn cs cr d : Nat) (N : NetD) (s : List Bool) (k : Nat) (w : World) (hN : NetAt w Ab An As Ar N) (hs : Holds w B (s.map Bo)) (hk : k < N.spurs.length) (hsl : s.length ≤ 1000)
    (h1 : 0 ≤ N.spurs[k].inn ∧ N.spurs[k].inn < s.length) (h2 : 0 ≤ N.spurs[k].out ∧ N.spurs[k].out < s.length) (h3 : 0 ≤ N.spurs[k].base ∧ 0 ≤ N.spurs[k].slots ∧ N.spurs[k].base + N.spurs[k].slots ≤ s.length) :
    Calls Try.prog 72 #[.agg #[.slice Ab N.blocks.length cb, .slice An N.next.length cn, .slice As N.spurs.length cs, .slice Ar N.robots.length cr, Iv N.queue, Iv N.aging, Iv N.detours, Iv N.patience], .slice B s.length d, .int .i64 k] w fun e w' => e = .returned (.bool (openS s N.spurs[k])) ∧ Below w.heap.size w w' := by
  obtain ⟨b, o, rfl, hbw, hsp⟩ := hN.spurs.spur hk
  have hB : Below w.heap.size w (w.alloc (.cells (netCells Ab An (some ⟨b, o, none⟩) Ar cb cn cs cr N) 29)) := (Below.refl _ _).alloc (Nat.le_refl _) _
  have hX := boxAt_of (heap_alloc_new w (.cells (netCells Ab An (some ⟨b, o, none⟩) Ar cb cn cs cr N) 29))
  obtain ⟨_, _, x2, _⟩ := hX
  obtain ⟨c0, c1, c2, c3, c4, c5⟩ := hsp.keep hbw hB
  have HR : Hid (openS s N.spurs[k] = (!(atB s N.spurs[k].inn.toNat || atB s N.spurs[k].out.toNat) && !((List.range N.spurs[k].slots.toNat).any (fun j => atB s (N.spurs[k].base.toNat + j))))) := Lib.hid rfl
  generalize openS s N.spurs[k] = res at *
  generalize N.spurs[k] = x at *
  obtain ⟨nm, dp, i, ot, sl, bs⟩ := x
  simp only at c0 c1 c2 c3 c4 c5 HR h1 h2 h3
  obtain ⟨i, rfl⟩ := Int.eq_ofNat_of_zero_le h1.1
  obtain ⟨ot, rfl⟩ := Int.eq_ofNat_of_zero_le h2.1
  obtain ⟨bs, rfl⟩ := Int.eq_ofNat_of_zero_le h3.1
  obtain ⟨sl, rfl⟩ := Int.eq_ofNat_of_zero_le h3.2.1
  have hi : i < s.length := by omega
  have ho : ot < s.length := by omega
  have hbsl : bs + sl ≤ s.length := by omega
  simp only [Int.toNat_natCast] at HR
  rw [atB_get hi, atB_get ho] at HR
  obtain ⟨br, or_, rfl, ei⟩ := (hs.keep hB).bo hi
  obtain ⟨br2, or2, hBeq, eo⟩ := (hs.keep hB).bo ho
  injection hBeq with hBeq
  injection hBeq with hB1 hB2
  subst hB1 hB2
  have HS := Lib.hid (hs.keep hB)
  have HBl := Lib.hid hB
  have hbr : br < (w.alloc (.cells (netCells Ab An (some ⟨b, o, none⟩) Ar cb cn cs cr N) 29)).heap.size := World.block_lt_of_cell? _ _ ei
  have eia : ∀ ob, ((w.alloc (.cells (netCells Ab An (some ⟨b, o, none⟩) Ar cb cn cs cr N) 29)).alloc ob).cell? ⟨br, or_ + i, none⟩ = some (.bool s[i]) := fun ob => (((Below.refl _ _).alloc (Nat.le_refl _) ob).cell (p := ⟨br, or_ + i, none⟩) hbr).trans ei
  have eoa : ∀ ob, ((w.alloc (.cells (netCells Ab An (some ⟨b, o, none⟩) Ar cb cn cs cr N) 29)).alloc ob).cell? ⟨br, or_ + ot, none⟩ = some (.bool s[ot]) := fun ob => (((Below.refl _ _).alloc (Nat.le_refl _) ob).cell (p := ⟨br, or_ + ot, none⟩) hbr).trans eo
  clear hN hs hsp h1 h2 h3 hB ei eo hbr
  have hcase : (s[i] = true ∨ s[i] = false ∧ s[ot] = true) ∨ s[i] = false ∧ s[ot] = false := by
    rcases s[i] with _ | _ <;> rcases s[ot] with _ | _ <;> simp
  rcases hcase with hor | ⟨q1, q2⟩
  · have HF : Hid (res = false) := Lib.hid (by
      rw [HR.out]
      rcases hor with h | ⟨h, h'⟩
      · rw [h]; simp
      · rw [h, h']; simp)
    clear HR
    generalize s[i] = si at *
    generalize s[ot] = so at *
    rcases hor with rfl | ⟨rfl, rfl⟩
    all_goals
      go_enter Try.func72, Try.ntmps72
      go_wp2
      go_ret
      exact ⟨gr_bool HF.out.symm, HBl.out.alloc HBl.out.size _⟩
  · rw [q1, q2] at HR
    rw [q1] at eia
    rw [q2] at eoa
    have HR2 : Hid (res = !((List.range sl).any (fun j => atB s (bs + j)))) := Lib.hid (by rw [HR.out]; simp)
    clear HR q1 q2
    go_enter Try.func72, Try.ntmps72
    go_wp2
    go_loop [8] (fun c => ∃ (j : Nat), c = .int .i64 ((bs + j : Nat) : Int) ∧ j ≤ sl ∧ Hid (∀ i, i < j → atB s (bs + i) = false)) (fun c => bs + sl - (intOf c).toNat)
    case atStart => exact ⟨0, rfl, Nat.zero_le _, Lib.hid (fun i hi => by omega)⟩
    case round =>
      obtain ⟨j, rfl, hj, HA⟩ := hrel
      by_cases hlt : j < sl
      · have hbj : bs + j < s.length := by omega
        obtain ⟨br2, or2, hBeq, ej⟩ := HS.out.bo hbj
        injection hBeq with hBeq
        injection hBeq with hB1 hB2
        subst hB1 hB2
        have hbr : br < (w.alloc (.cells (netCells Ab An (some ⟨b, o, none⟩) Ar cb cn cs cr N) 29)).heap.size := World.block_lt_of_cell? _ _ ej
        have eja : ∀ ob, ((w.alloc (.cells (netCells Ab An (some ⟨b, o, none⟩) Ar cb cn cs cr N) 29)).alloc ob).cell? ⟨br, or_ + (bs + j), none⟩ = some (.bool s[bs + j]) := fun ob => (((Below.refl _ _).alloc (Nat.le_refl _) ob).cell (p := ⟨br, or_ + (bs + j), none⟩) hbr).trans ej
        have hlt2 : bs + j < bs + sl := by omega
        clear ej hbr
        rcases hsj : s[bs + j] with _ | _
        · rw [hsj] at eja
          have HA2 : Hid (∀ i, i < j + 1 → atB s (bs + i) = false) := Lib.hid (fun i hi => by
            rcases Nat.lt_succ_iff_lt_or_eq.1 hi with h | rfl
            · exact HA.out i h
            · rw [atB_get hbj, hsj])
          clear hsj HA
          go_wp2
          go_round
          case rel => exact ⟨j + 1, by go_num, by omega, HA2⟩
          case measure => simp [intOf]; omega
        · rw [hsj] at eja
          have HF : Hid (res = false) := Lib.hid (by
            rw [HR2.out]
            have : (List.range sl).any (fun j => atB s (bs + j)) = true := List.any_eq_true.2 ⟨j, by simpa using hlt, by rw [atB_get hbj, hsj]⟩
            rw [this]; rfl)
          clear hsj HA
          go_wp2
          go_ret
          exact ⟨gr_bool HF.out.symm, HBl.out.alloc HBl.out.size _⟩
      · have HF : Hid (res = true) := Lib.hid (by
          rw [HR2.out]
          have : (List.range sl).any (fun j => atB s (bs + j)) = false := by
            rw [List.any_eq_false]
            intro i hi
            rw [HA.out i (by have := List.mem_range.1 hi; omega)]
            simp
          rw [this]; rfl)
        have hge : bs + sl ≤ bs + j := by omega
        go_wp2
        go_ret
        exact ⟨gr_bool HF.out.symm, HBl.out.alloc HBl.out.size _⟩
end Go.Proofs.Ytjbhmeeebacnpaa
namespace Go.Proofs.Ytjbhmeeebacnpaa
open Go.RowKit Fl

/-- A byte of a string that is written as a list. -/
theorem bget (l : List UInt8) (k : Nat) (h : k < ByteArray.size ⟨l.toArray⟩) : (⟨l.toArray⟩ : ByteArray)[k]'h = l[k]'(by rwa [show ByteArray.size ⟨l.toArray⟩ = l.length from rfl] at h) := rfl
theorem ret_bool {a b : Bool} (h : a = b) : Ending.returned (.bool a) = .returned (.bool b) := by rw [h]
theorem ret_int {k : IntKind} {a b : Int} (h : a = b) : Ending.returned (.int k a) = .returned (.int k b) := by rw [h]

theorem fields_isDigit_c (c : UInt8) (w : World) : Calls Try.prog 92 #[.int .u8 c.toNat] w fun e w' => e = .returned (.bool (digitB c)) ∧ w = w' := by
  go_enter Try.func92, Try.ntmps92
  go_wp2
  all_goals go_ret
  all_goals exact ⟨ret_bool (by rw [Bool.eq_iff_iff]; simp [digitB]; omega), rfl⟩
theorem fields_isLetter_c (c : UInt8) (w : World) : Calls Try.prog 91 #[.int .u8 c.toNat] w fun e w' => e = .returned (.bool (letterB c)) ∧ w = w' := by
  go_enter Try.func91, Try.ntmps91
  go_wp2
  all_goals go_ret
  all_goals exact ⟨ret_bool (by rw [Bool.eq_iff_iff]; simp [letterB]; omega), rfl⟩
theorem blockwayref01_letter_c (c : UInt8) (w : World) : Calls Try.prog 89 #[.int .u8 c.toNat] w fun e w' => e = .returned (.bool (letterB c)) ∧ w = w' := by
  go_enter Try.func89, Try.ntmps89
  go_wp2
  all_goals go_ret
  all_goals exact ⟨ret_bool (by rw [Bool.eq_iff_iff]; simp [letterB]; omega), rfl⟩
end Go.Proofs.Ytjbhmeeebacnpaa
namespace Go.Proofs.Ytjbhmeeebacnpaa
open Go.RowKit Fl
attribute [local go_sem] bget

theorem all_snoc {l : List UInt8} {k : Nat} (h : k < l.length) {p : UInt8 → Bool} (h1 : (l.take k).all p = true) (h2 : p l[k] = true) : (l.take (k + 1)).all p = true := by
  rw [List.take_succ_eq_append_getElem h, List.all_append, h1]
  simp [h2]

set_option maxHeartbeats 1000000 in
theorem refName_c (l : List UInt8) (w : World) (hs : l.length ≤ maxLen) : Calls Try.prog 80 #[.string ⟨l.toArray⟩] w fun e w' => e = .returned (.bool (name l)) ∧ w = w' := by
  unfold maxLen at hs
  by_cases h1 : 1 ≤ l.length
  · have e1 : l ≠ [] := by intro e; subst e; simp at h1
    have e2 : l.isEmpty = false := by simpa using e1
    by_cases h2 : l.length ≤ 12
    · by_cases h3 : letterB l[0] = true
      · go_enter Try.func80, Try.ntmps80
        go_wp2_with (go_at_call 89; refine (blockwayref01_letter_c _ _).mono ?_; rintro e w' ⟨rfl, rfl⟩)
        go_loop [3] (fun i => ∃ k : Nat, k ≤ l.length ∧ i = .int .i64 k ∧ (l.take k).all nameByte = true) (fun i => l.length - (intOf i).toNat)
        case atStart => exact ⟨0, Nat.zero_le _, rfl, by simp⟩
        case round =>
          obtain ⟨k, hk, rfl, ha⟩ := hrel
          by_cases hlt : k < l.length
          · have HA := Lib.hid ha
            clear ha
            go_wp2_with (go_at_call 89; refine (blockwayref01_letter_c _ _).mono ?_; rintro e w' ⟨rfl, rfl⟩)
            all_goals first
              | (go_round
                 case rel => exact ⟨k + 1, by omega, by go_num, all_snoc hlt HA.out (by first | exact nameByte_letter ‹_› | exact nameByte_other (by (try simp only [bne_eq_false_iff_eq] at *); omega))⟩
                 case measure => simp [intOf]; omega)
              | (go_ret
                 exact ⟨ret_bool (name_bad hlt (nameByte_none (by simp_all) (by simp_all; omega))).symm, rfl⟩)
          · obtain rfl : k = l.length := by omega
            have hn := Lib.hid (name_good h1 h2 (by rw [head_of h1]; exact h3) (by simpa using ha))
            clear ha
            go_wp2
            go_ret
            exact ⟨ret_bool hn.out.symm, rfl⟩
      · have h4 : letterB l[0] = false := by simpa using h3
        clear h3
        go_enter Try.func80, Try.ntmps80
        go_wp2_with (go_at_call 89; refine (blockwayref01_letter_c _ _).mono ?_; rintro e w' ⟨rfl, rfl⟩)
        go_ret
        exact ⟨ret_bool (name_first h1 h4).symm, rfl⟩
    · go_enter Try.func80, Try.ntmps80
      go_wp2_with (go_at_call 89; refine (blockwayref01_letter_c _ _).mono ?_; rintro e w' ⟨rfl, rfl⟩)
      go_ret
      exact ⟨ret_bool (name_long h2).symm, rfl⟩
  · obtain rfl : l = [] := List.eq_nil_of_length_eq_zero (by omega)
    go_enter Try.func80, Try.ntmps80
    go_wp2_with (go_at_call 89; refine (blockwayref01_letter_c _ _).mono ?_; rintro e w' ⟨rfl, rfl⟩)
    go_ret
    exact ⟨ret_bool rfl, rfl⟩
set_option maxHeartbeats 1000000 in
theorem Name_c (l : List UInt8) (w : World) (hs : l.length ≤ maxLen) : Calls Try.prog 85 #[.string ⟨l.toArray⟩] w fun e w' => e = .returned (.bool (name l)) ∧ w = w' := by
  unfold maxLen at hs
  by_cases h1 : 1 ≤ l.length
  · have e1 : l ≠ [] := by intro e; subst e; simp at h1
    have e2 : l.isEmpty = false := by simpa using e1
    by_cases h2 : l.length ≤ 12
    · by_cases h3 : letterB l[0] = true
      · go_enter Try.func85, Try.ntmps85
        go_wp2_with (first | (go_at_call 91; refine (fields_isLetter_c _ _).mono ?_; rintro e w' ⟨rfl, rfl⟩) | (go_at_call 92; refine (fields_isDigit_c _ _).mono ?_; rintro e w' ⟨rfl, rfl⟩))
        go_loop [20] (fun i => ∃ k : Nat, k ≤ l.length ∧ i = .int .i64 k ∧ (l.take k).all nameByte = true) (fun i => l.length - (intOf i).toNat)
        case atStart => exact ⟨0, Nat.zero_le _, rfl, by simp⟩
        case round =>
          obtain ⟨k, hk, rfl, ha⟩ := hrel
          by_cases hlt : k < l.length
          · have HA := Lib.hid ha
            clear ha
            go_wp2_with (first | (go_at_call 91; refine (fields_isLetter_c _ _).mono ?_; rintro e w' ⟨rfl, rfl⟩) | (go_at_call 92; refine (fields_isDigit_c _ _).mono ?_; rintro e w' ⟨rfl, rfl⟩))
            all_goals first
              | (go_round
                 case rel => exact ⟨k + 1, by omega, by go_num, all_snoc hlt HA.out (by first | exact nameByte_letter ‹_› | exact nameByte_other (by (try simp only [bne_eq_false_iff_eq, digitB, decide_eq_true_eq] at *); omega))⟩
                 case measure => simp [intOf]; omega)
              | (go_ret
                 exact ⟨ret_bool (name_bad hlt (nameByte_none (by simp_all) (by simp_all [digitB]; omega))).symm, rfl⟩)
          · obtain rfl : k = l.length := by omega
            have hn := Lib.hid (name_good h1 h2 (by rw [head_of h1]; exact h3) (by simpa using ha))
            clear ha
            go_wp2
            go_ret
            exact ⟨ret_bool hn.out.symm, rfl⟩
      · have h4 : letterB l[0] = false := by simpa using h3
        clear h3
        go_enter Try.func85, Try.ntmps85
        go_wp2_with (first | (go_at_call 91; refine (fields_isLetter_c _ _).mono ?_; rintro e w' ⟨rfl, rfl⟩) | (go_at_call 92; refine (fields_isDigit_c _ _).mono ?_; rintro e w' ⟨rfl, rfl⟩))
        go_ret
        exact ⟨ret_bool (name_first h1 h4).symm, rfl⟩
    · go_enter Try.func85, Try.ntmps85
      go_wp2_with (first | (go_at_call 91; refine (fields_isLetter_c _ _).mono ?_; rintro e w' ⟨rfl, rfl⟩) | (go_at_call 92; refine (fields_isDigit_c _ _).mono ?_; rintro e w' ⟨rfl, rfl⟩))
      go_ret
      exact ⟨ret_bool (name_long h2).symm, rfl⟩
  · obtain rfl : l = [] := List.eq_nil_of_length_eq_zero (by omega)
    go_enter Try.func85, Try.ntmps85
    go_wp2_with (first | (go_at_call 91; refine (fields_isLetter_c _ _).mono ?_; rintro e w' ⟨rfl, rfl⟩) | (go_at_call 92; refine (fields_isDigit_c _ _).mono ?_; rintro e w' ⟨rfl, rfl⟩))
    go_ret
    exact ⟨ret_bool rfl, rfl⟩
end Go.Proofs.Ytjbhmeeebacnpaa
namespace Go.Proofs.Ytjbhmeeebacnpaa
open Go Go.RowKit Fl

theorem configured_c (q a d p : Int) (w : World) (h : ConfOk q a d p) :
    Calls Try.prog 69 #[.agg #[Iv q, Iv a, Iv d, Iv p]] w fun e w' => e = .returned (.bool true) ∧ Below w.heap.size w w' := by
  obtain ⟨⟨h1, h2⟩, ⟨h3, h4⟩, ⟨h5, h6⟩, ⟨h7, h8⟩⟩ := h
  go_enter Try.func69, Try.ntmps69
  go_wp2
  go_ret
  exact ⟨rfl, (Below.refl _ _).alloc (Nat.le_refl _) _⟩
set_option maxRecDepth 100000 in
set_option maxHeartbeats 4000000 in
theorem blocks_c (Ab An As Ar : Option Addr) (cb cn cs cr : Nat) (N : NetD) (w : World) (hN : NetAt w Ab An As Ar N) (hok : NetOk N) :
    Calls Try.prog 67 #[.agg #[.slice Ab N.blocks.length cb, .slice An N.next.length cn, .slice As N.spurs.length cs, .slice Ar N.robots.length cr, Iv N.queue, Iv N.aging, Iv N.detours, Iv N.patience]] w fun e w' => e = .returned (.bool true) ∧ Below w.heap.size w w' := by
  have HN := Lib.hid hN
  have HO := Lib.hid hok
  have hB0 : Below w.heap.size w (w.alloc (.cells (netCells Ab An As Ar cb cn cs cr N) 29)) := (Below.refl _ _).alloc (Nat.le_refl _) _
  have HX := Lib.hid (boxAt_of (heap_alloc_new w (.cells (netCells Ab An As Ar cb cn cs cr N) 29)))
  have hsz0 : w.heap.size < (w.alloc (.cells (netCells Ab An As Ar cb cn cs cr N) 29)).heap.size := by simp
  have h1 := hok.some
  have h2 := hok.few
  have h3 := hok.lanes
  have hne : ((N.next.length : Int) != (N.blocks.length : Int)) = false := by rw [h3]; simp
  have HL := Lib.hid h3
  obtain ⟨y0, y1, y2, y3, y4, y5, y6, y7⟩ := boxAt_of (heap_alloc_new w (.cells (netCells Ab An As Ar cb cn cs cr N) 29))
  clear hN hok h3
  go_enter Try.func67, Try.ntmps67
  go_wp2
  generalize w.alloc (.cells (netCells Ab An As Ar cb cn cs cr N) 29) = w0 at *
  clear y0 y1 y2 y3 y4 y5 y6 y7
  go_loopw [3] (fun i wr => ∃ (k : Nat), i = .int .i64 k ∧ k ≤ N.blocks.length ∧ Below w0.heap.size w0 wr) (fun i _ => N.blocks.length - (intOf i).toNat)
  case atStart => exact ⟨0, rfl, Nat.zero_le _, Below.refl _ _⟩
  case round =>
    obtain ⟨k, rfl, hk, hb⟩ := hrel
    have hbw : Below w.heap.size w wr := hB0.trans (hb.mono (Nat.le_of_lt hsz0))
    obtain ⟨x0, x1, x2, x3, x4, x5, x6, x7⟩ := HX.out.keep hsz0 hb
    clear x2 x3 x4 x5 x6 x7
    by_cases hlt : k < N.blocks.length
    · have hltn : k < N.next.length := by have := HL.out; omega
      obtain ⟨bb, ob, rfl, hbb, hs⟩ := HN.out.blocks.block hlt
      obtain ⟨c0, c1, c2⟩ := hs.keep hbb hbw
      obtain ⟨p1, p2, p3, p4⟩ := HO.out.places _ (List.getElem_mem hlt)
      obtain ⟨bn, on, A1, cc1, rfl, e1, hr⟩ := HN.out.next.one hltn
      have hbn : bn < w.heap.size := World.block_lt_of_cell? _ _ e1
      have ho4 := HO.out.outs _ (List.getElem_mem hltn)
      have HG := Lib.hid (validG_row HO.out.graph hltn)
      have HSrt := Lib.hid (validG_sorted' HO.out.graph hltn)
      have HW := Lib.hid (fun W (hW : Below w0.heap.size w0 W) => (HX.out.keep hsz0 hW))
      have HE1 : Hid (∀ W, Below w.heap.size w W → W.cell? ⟨bn, on + k, none⟩ = some (.slice A1 N.next[k].length cc1) ∧ Holds W A1 (N.next[k].map Iv)) := Lib.hid (fun W hW => ⟨(hW.cell (p := ⟨bn, on + k, none⟩) hbn).trans e1, hr.keep hW⟩)
      have e1a : ∀ o, (wr.alloc o).cell? ⟨bn, on + k, none⟩ = some (.slice A1 N.next[k].length cc1) := fun o => (HE1.out _ (hbw.alloc hbw.size o)).1
      have x1a : ∀ o, (wr.alloc o).cell? ⟨w.heap.size, 1, none⟩ = some (.slice (some ⟨bn, on, none⟩) N.next.length cn) := fun o => (HW.out _ (hb.alloc hb.size o)).c1
      clear hs hr e1
      generalize N.next[k] = r at *
      generalize N.blocks[k] = x at *
      obtain ⟨nm, xx, yy⟩ := x
      simp only at c0 c1 c2 p1 p2 p3 p4
      go_wp2
      have hb2 := hb.alloc hb.size (.cells #[Sv nm, Iv xx, Iv yy] 77)
      have hbw2 := hbw.alloc hbw.size (.cells #[Sv nm, Iv xx, Iv yy] 77)
      clear e1a x1a c0 c1 c2 hb hbw x0 x1
      generalize wr.alloc (.cells #[Sv nm, Iv xx, Iv yy] 77) = wx at *
      go_loop [5] (fun i => ∃ (j : Nat), i = .int .i64 j ∧ j ≤ r.length) (fun i => r.length - (intOf i).toNat)
      case atStart => exact ⟨0, rfl, Nat.zero_le _⟩
      case round =>
        obtain ⟨j, rfl, hj⟩ := hrel
        obtain ⟨x0, x1, x2, x3, x4, x5, x6, x7⟩ := HW.out _ hb2
        clear x2 x3 x4 x5 x6 x7
        obtain ⟨e1, hr⟩ := HE1.out _ hbw2
        by_cases hjt : j < r.length
        · obtain ⟨br, or_, rfl, e2⟩ := hr.iv hjt
          obtain ⟨q0, q1, q2⟩ := HG.out r[j] (List.getElem_mem hjt)
          have HLn := HL.out
          have q1' : r[j] < (N.blocks.length : Int) := by omega
          have q3 : (r[j] == (k : Int)) = false := by simpa using q2
          clear HLn q1 q2
          by_cases hj0 : j = 0
          · subst hj0
            rw [Nat.add_zero] at e2
            clear hr
            generalize r[0] = x at *
            go_wp2
            go_round
            case rel => exact ⟨1, by go_num, by omega⟩
            case measure => simp [intOf]; omega
          · have hjp : j - 1 < r.length := by omega
            obtain ⟨b3, o3, hA3, e3⟩ := hr.iv hjp
            injection hA3 with h
            injection h with g1 g2
            subst g1 g2
            have hlo : r[j - 1] < r[j] := List.pairwise_iff_getElem.1 HSrt.out (j - 1) j hjp hjt (by omega)
            have hpos : 0 < j := by omega
            have hcast : (j : Int) - 1 = ((j - 1 : Nat) : Int) := by omega
            have hd4 : decide (r[j] ≤ r[j - 1]) = false := by rw [decide_eq_false_iff_not]; omega
            clear hr hlo
            generalize r[j] = x at *
            generalize r[j - 1] = y at *
            go_wp2
            go_round
            case rel => exact ⟨j + 1, by go_num, by omega⟩
            case measure => simp [intOf]; omega
        · clear hr
          go_wp2
          go_roundw
          case rel => exact ⟨k + 1, by go_num, by omega, hb2⟩
          case measure => simp [intOf]; omega
    · go_wp2
      go_ret
      exact ⟨rfl, hbw⟩
end Go.Proofs.Ytjbhmeeebacnpaa
namespace Go.Proofs.Ytjbhmeeebacnpaa
open Go Go.RowKit Fl
attribute [local go_sem] bget

theorem Try.infoStrG : (Try.prog.info? 9).map (fun i => (i.zero, i.size, i.bytes)) = some (some (.string ByteArray.empty), 1, 16) := by kernel_rfl
section
variable {ops : Array Oper} {rest : List Oper} {o : Oper} {a : Act} {Q : Exit → Act → World → Prop}
theorem app_str (w : World) (hgd : o.guard = none) (s x : Operand) (ho : o.op = .call { callee := .builtin .append, args := #[s, x], argTypes := #[106, 106] }) (base : Nat) (v : Value) (n : Nat) (xs : List Value) (hs : a.eval s = v) (hown : w.ownsRow base 9 1 v n xs)
    (B : Nat) (z : List UInt8) (hx : a.eval x = .slice (some ⟨B, 0, none⟩) 1 1) (hc : w.cell? ⟨B, 0, none⟩ = some (Sv z)) (hn : n ≤ 1000000000) (hbase : base ≤ w.heap.size)
    (h : ∀ v' w', w'.ownsRow base 9 1 v' (n + 1) (xs ++ [Sv z]) → w.grownBy w' v.ownBlock → wpList Try.prog ops Q rest (a.put o.dst v') w') : wpList Try.prog ops Q (o :: rest) a w :=
  app_any w hgd s x 106 9 (.string ByteArray.empty) 16 Try.underlying106 Try.infoStrG rfl (by decide) ho base v n xs hs hown B (Sv z) hx hc rfl hn hbase h
end
theorem Holds.sv {w : World} {A : Option Addr} {zs : List (List UInt8)} (h : Holds w A (zs.map Sv)) {k : Nat} (hk : k < zs.length) : ∃ b o, A = some ⟨b, o, none⟩ ∧ w.cell? ⟨b, o + k, none⟩ = some (Sv zs[k]) := by
  obtain ⟨b, o, hA, _, hc⟩ := h.at_ (by simp; omega)
  exact ⟨b, o, hA, by rw [hc k (by simpa using hk)]; simp⟩
theorem name_short {s : List UInt8} (h : name s = true) : s.length ≤ 12 := by
  unfold name at h
  simp at h
  omega
def bNames (N : NetD) (k : Nat) : List (List UInt8) := (N.blocks.take k).map (·.name)
def sNames (N : NetD) (k : Nat) : List (List UInt8) := N.blocks.map (·.name) ++ (N.spurs.take k).map (·.name)
theorem bNames_succ {N : NetD} {k : Nat} (h : k < N.blocks.length) : bNames N (k + 1) = bNames N k ++ [N.blocks[k].name] := by
  unfold bNames
  rw [List.take_succ_eq_append_getElem h, List.map_append]; rfl
theorem sNames_succ {N : NetD} {k : Nat} (h : k < N.spurs.length) : sNames N (k + 1) = sNames N k ++ [N.spurs[k].name] := by
  unfold sNames
  rw [List.take_succ_eq_append_getElem h, List.map_append, List.append_assoc]; rfl
theorem sNames_zero (N : NetD) : sNames N 0 = bNames N N.blocks.length := by unfold sNames bNames; simp
theorem sNames_all (N : NetD) : sNames N N.spurs.length = namesN N := by unfold sNames namesN; simp
set_option maxRecDepth 100000 in
set_option maxHeartbeats 4000000 in
theorem names_c (Ab An As Ar : Option Addr) (cb cn cs cr : Nat) (N : NetD) (w : World) (hN : NetAt w Ab An As Ar N) (hok : NetOk N) :
    Calls Try.prog 68 #[.agg #[.slice Ab N.blocks.length cb, .slice An N.next.length cn, .slice As N.spurs.length cs, .slice Ar N.robots.length cr, Iv N.queue, Iv N.aging, Iv N.detours, Iv N.patience]] w fun e w' => e = .returned (.bool true) ∧ Below w.heap.size w w' := by
  have HN := Lib.hid hN
  have HNm := Lib.hid hok.named
  have HAp := Lib.hid hok.apart
  have h24 := hok.few
  have h6 := hok.spurs6
  have hB0 : Below w.heap.size w (w.alloc (.cells (netCells Ab An As Ar cb cn cs cr N) 29)) := (Below.refl _ _).alloc (Nat.le_refl _) _
  have HX := Lib.hid (boxAt_of (heap_alloc_new w (.cells (netCells Ab An As Ar cb cn cs cr N) 29)))
  have hsz0 : (w.alloc (.cells (netCells Ab An As Ar cb cn cs cr N) 29)).heap.size = w.heap.size + 1 := by simp
  clear hN hok
  go_enter Try.func68, Try.ntmps68
  go_wp2
  generalize w.alloc (.cells (netCells Ab An As Ar cb cn cs cr N) 29) = w0 at *
  have HB0 := Lib.hid hB0
  have hsz1 : w.heap.size < w0.heap.size := by omega
  clear hB0 hsz0
  go_loopw [3, 4] (fun v i wr => ∃ (k : Nat), i = .int .i64 k ∧ k ≤ N.blocks.length ∧ Hid (wr.ownsRow w0.heap.size 9 1 v k ((bNames N k).map Sv)) ∧ Below w0.heap.size w0 wr) (fun _ i _ => N.blocks.length - (intOf i).toNat)
  case atStart => exact ⟨0, rfl, Nat.zero_le _, Lib.hid (World.ownsRow_nil _ _ _ _), Below.refl _ _⟩
  case round =>
    obtain ⟨k, rfl, hk, HO, hb⟩ := hrel
    have hbw : Below w.heap.size w wr := HB0.out.trans (hb.mono (Nat.le_of_lt hsz1))
    obtain ⟨x0, _, x2, _⟩ := HX.out.keep hsz1 hb
    have hsz := hb.size
    by_cases hlt : k < N.blocks.length
    · obtain ⟨bb, ob, rfl, hbb, hs⟩ := HN.out.blocks.block hlt
      obtain ⟨c0, _, _⟩ := hs.keep hbb hbw
      have HT : Hid ((bNames N (k + 1)).map Sv = (bNames N k).map Sv ++ [Sv N.blocks[k].name]) := Lib.hid (by rw [bNames_succ hlt, List.map_append]; rfl)
      have base := own_base HO.out
      clear hs hbw
      generalize N.blocks[k].name = nm at *
      go_wp2_with (at_builtin; refine app_str _ rfl _ _ rfl w0.heap.size _ _ _ rfl (HO.out.alloc _) wr.heap.size nm rfl (by simp [go_sem]) (by omega) (by simp; omega) ?_)
      intro v8 w8 own8 hg8
      have hb8 : Below w0.heap.size w0 w8 := (hb.alloc hb.size _).grown hg8 (by simp; omega) (fun k hk => base k hk)
      have HO8 : Hid (w8.ownsRow w0.heap.size 9 1 v8 (k + 1) ((bNames N (k + 1)).map Sv)) := Lib.hid (by rw [HT.out]; exact own8)
      clear own8 hg8 base HO
      go_wp2
      go_roundw
      case rel => exact ⟨k + 1, by go_num, by omega, HO8, hb8⟩
      case measure => simp [intOf]; omega
    · obtain rfl : k = N.blocks.length := by omega
      have HO2 : Hid (wr.ownsRow w0.heap.size 9 1 u3 (N.blocks.length + 0) ((sNames N 0).map Sv)) := Lib.hid (by rw [sNames_zero]; exact HO.out)
      clear HO hbw
      go_wp2
      clear x0 x2 hsz
      go_loopw [3, 5] (fun v i wr => ∃ (k : Nat), i = .int .i64 k ∧ k ≤ N.spurs.length ∧ Hid (wr.ownsRow w0.heap.size 9 1 v (N.blocks.length + k) ((sNames N k).map Sv)) ∧ Below w0.heap.size w0 wr) (fun _ i _ => N.spurs.length - (intOf i).toNat)
      case atStart => exact ⟨0, rfl, Nat.zero_le _, HO2, hb⟩
      case round =>
        clear HO2 hb
        obtain ⟨k, rfl, hk, HO, hb⟩ := hrel
        have hbw : Below w.heap.size w wr := HB0.out.trans (hb.mono (Nat.le_of_lt hsz1))
        obtain ⟨x0, _, x2, _⟩ := HX.out.keep hsz1 hb
        have hsz := hb.size
        by_cases hlt : k < N.spurs.length
        · obtain ⟨bb, ob, rfl, hbb, hs⟩ := HN.out.spurs.spur hlt
          have c0 := (hs.keep hbb hbw).c0
          have HT : Hid ((sNames N (k + 1)).map Sv = (sNames N k).map Sv ++ [Sv N.spurs[k].name]) := Lib.hid (by rw [sNames_succ hlt, List.map_append]; rfl)
          have base := own_base HO.out
          clear hs hbw
          generalize N.spurs[k].name = nm at *
          go_wp2_with (at_builtin; refine app_str _ rfl _ _ rfl w0.heap.size _ _ _ rfl (HO.out.alloc _) wr.heap.size nm rfl (by simp [go_sem]) (by omega) (by simp; omega) ?_)
          intro v8 w8 own8 hg8
          have hb8 : Below w0.heap.size w0 w8 := (hb.alloc hb.size _).grown hg8 (by simp; omega) (fun k hk => base k hk)
          have HO8 : Hid (w8.ownsRow w0.heap.size 9 1 v8 (N.blocks.length + (k + 1)) ((sNames N (k + 1)).map Sv)) := Lib.hid (by rw [HT.out]; exact own8)
          clear own8 hg8 base HO
          go_wp2
          go_roundw
          case rel => exact ⟨k + 1, by go_num, by omega, HO8, hb8⟩
          case measure => simp [intOf]; omega
        · obtain rfl : k = N.spurs.length := by omega
          have HO2 : Hid (wr.ownsRow w0.heap.size 9 1 u3 (namesN N).length ((namesN N).map Sv)) := Lib.hid (by
            have h := HO.out
            rw [sNames_all] at h
            have e : (namesN N).length = N.blocks.length + N.spurs.length := by simp [namesN]
            rw [e]; exact h)
          have hL30 : (namesN N).length ≤ 30 := by simp [namesN]; omega
          have HBw := Lib.hid hbw
          clear HO hbw hsz
          obtain ⟨AL, cL, rfl, hL⟩ := own_is HO2.out
          have HL := Lib.hid hL
          generalize namesN N = L at *
          clear HO2 hL
          go_wp2
          clear x0 x2 hb
          go_loopw [6] (fun i wz => ∃ (k n : Nat), i = .int .i64 k ∧ k ≤ L.length ∧ wz = wr.drewN n) (fun i _ => L.length - (intOf i).toNat)
          case atStart => exact ⟨0, 0, rfl, Nat.zero_le _, rfl⟩
          case round =>
            obtain ⟨k, n, rfl, hk, rfl⟩ := hrel
            by_cases hlt : k < L.length
            · obtain ⟨bl, ol, rfl, ek⟩ := HL.out.sv hlt
              have hnk := HNm.out _ (List.getElem_mem hlt)
              have HC := Lib.hid (fun W => refName_c L[k] W (by have := name_short hnk; unfold maxLen; omega))
              rw [hnk] at HC
              have HNe : Hid (∀ j (hj : j < k), L[k] ≠ L[j]'(by omega)) := Lib.hid (fun j hj e => by
                have h1 := List.pairwise_iff_getElem.1 HAp.out j k (by omega) hlt hj
                exact h1 e.symm)
              clear hnk
              generalize L[k] = nm at *
              go_wp2_with fail
              refine (HC.out _).mono ?_
              rintro e w9 ⟨rfl, rfl⟩
              go_wp2
              go_loopw [7] (fun i wz => ∃ (j n : Nat), i = .int .i64 j ∧ j ≤ k ∧ wz = wr.drewN n) (fun i _ => k - (intOf i).toNat)
              case atStart => exact ⟨0, n, rfl, Nat.zero_le _, rfl⟩
              case round =>
                obtain ⟨j, n2, rfl, hj, rfl⟩ := hrel
                by_cases hjt : j < k
                · have hjl : j < L.length := by omega
                  obtain ⟨bl2, ol2, hBeq, ej⟩ := HL.out.sv hjl
                  injection hBeq with hBeq
                  injection hBeq with hB1 hB2
                  subst hB1 hB2
                  have hne : (nm == L[j]) = false := by simpa using HNe.out j hjt
                  generalize L[j] = nj at *
                  go_wp2
                  go_quiet (fail)
                  go_wp2
                  go_roundw
                  case rel => exact ⟨j + 1, _, by go_num, by omega, rfl⟩
                  case measure => simp [intOf]; omega
                · go_wp2
                  go_roundw
                  case rel => exact ⟨k + 1, n2, by go_num, by omega, rfl⟩
                  case measure => simp [intOf]; omega
            · go_wp2
              go_ret
              exact ⟨rfl, below_drewN HBw.out n⟩
end Go.Proofs.Ytjbhmeeebacnpaa
