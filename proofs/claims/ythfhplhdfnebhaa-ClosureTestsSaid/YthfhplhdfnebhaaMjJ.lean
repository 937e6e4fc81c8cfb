/- Joined texts. -/
import Derived.Test.YthfhplhdfnebhaaMjD
import Derived.Test.YthfhplhdfnebhaaMjI
import Derived.Test.YthfhplhdfnebhaaMjG
import Derived.Test.YthfhplhdfnebhaaMjA
namespace Go.Proofs.Ythfhplhdfnebhaa
open Go Go.RowKit Fl

open Classical in
/-- The first error of a network and its shut cells. -/
noncomputable def chkN (N : NetD) (s : List Bool) : Int := if NetOk N then (if (s.length : Int) = cellsN N then 0 else 19) else 20
theorem chkN_ok {N : NetD} {s : List Bool} (h1 : NetOk N) (h2 : (s.length : Int) = cellsN N) : chkN N s = 0 := by unfold chkN; rw [if_pos h1, if_pos h2]
theorem chkN_len {N : NetD} {s : List Bool} (h1 : NetOk N) (h2 : ¬ (s.length : Int) = cellsN N) : chkN N s = 19 := by unfold chkN; rw [if_pos h1, if_neg h2]
theorem chkN_no {N : NetD} {s : List Bool} (h1 : ¬ NetOk N) : chkN N s = 20 := by unfold chkN; rw [if_neg h1]
theorem chkN_zero {N : NetD} {s : List Bool} (h : chkN N s = 0) : NetOk N ∧ (s.length : Int) = cellsN N := by
  by_cases h1 : NetOk N
  · by_cases h2 : (s.length : Int) = cellsN N
    · exact ⟨h1, h2⟩
    · rw [chkN_len h1 h2] at h; omega
  · rw [chkN_no h1] at h; omega
set_option maxHeartbeats 4000000 in
theorem count_no (Ab An As Ar : Option Addr) (cb cn cs cr : Nat) (N : NetD) (w : World) (hN : NetAt w Ab An As Ar N) (hl : NetLen N) (hok : ¬ NetOk N) (hcr : N.robots.length ≤ cr) :
    Calls Try.prog 29 #[.agg #[.slice Ab N.blocks.length cb, .slice An N.next.length cn, .slice As N.spurs.length cs, .slice Ar N.robots.length cr, Iv N.queue, Iv N.aging, Iv N.detours, Iv N.patience]] w fun e w' => e = .returned (.tuple #[.int .i64 0, .int .i64 20]) ∧ Below w.heap.size w w' := by
  have CV := Lib.hid (fun W (hW : Below w.heap.size w W) => netValidX_c Ab An As Ar cb cn cs cr N W (hN.keep hW) hl hcr)
  have HNo := Lib.hid hok
  have hB0 := Lib.hid ((Below.refl w.heap.size w).alloc (Nat.le_refl _) (.cells (netCells Ab An As Ar cb cn cs cr N) 29))
  have hsz0 : w.heap.size < (w.alloc (.cells (netCells Ab An As Ar cb cn cs cr N) 29)).heap.size := by simp
  obtain ⟨x0, x1, x2, x3, x4, x5, x6, x7⟩ := boxAt_of (heap_alloc_new w (.cells (netCells Ab An As Ar cb cn cs cr N) 29))
  clear hN hok hl
  go_enter Try.func29, Try.ntmps29
  go_wp2_with fail
  generalize w.alloc (.cells (netCells Ab An As Ar cb cn cs cr N) 29) = w0 at *
  refine (CV.out _ hB0.out).mono ?_
  intro e w1 hE
  obtain ⟨⟨hg, rfl⟩ | ⟨_, rfl⟩, hb1⟩ := hE.use
  · exact absurd hg HNo.out
  have HB1 := Lib.hid (hB0.out.trans (hb1.mono (Nat.le_of_lt hsz0)))
  clear x0 x1 x2 x3 x4 x5 x6 x7 hb1 CV hE
  go_wp2
  go_ret2
  exact ⟨rfl, HB1.out⟩
set_option maxHeartbeats 4000000 in
theorem checkX_c (Ab An As Ar B : Option Addr) (cb cn cs cr d : Nat) (N : NetD) (s : List Bool) (w : World) (hN : NetAt w Ab An As Ar N) (hl : NetLen N) (hcr : N.robots.length ≤ cr) :
    Calls Try.prog 19 #[.agg #[.slice Ab N.blocks.length cb, .slice An N.next.length cn, .slice As N.spurs.length cs, .slice Ar N.robots.length cr, Iv N.queue, Iv N.aging, Iv N.detours, Iv N.patience], .slice B s.length d] w fun e w' => e = .returned (.int .i64 (chkN N s)) ∧ Below w.heap.size w w' := by
  by_cases hok : NetOk N
  · by_cases hsl : (s.length : Int) = cellsN N
    · rw [chkN_ok hok hsl]
      exact check_c Ab An As Ar B cb cn cs cr d N s w hN hok hcr hsl
    · rw [chkN_len hok hsl]
      have CC := Lib.hid (fun W (hW : Below w.heap.size w W) => count_c Ab An As Ar cb cn cs cr N W (hN.keep hW) hok hcr)
      have hne : ((s.length : Int) != cellsN N) = true := by rw [bne_iff_ne]; exact hsl
      have hB0 := Lib.hid ((Below.refl w.heap.size w).alloc (Nat.le_refl _) (.cells (netCells Ab An As Ar cb cn cs cr N) 29))
      have hsz0 : w.heap.size < (w.alloc (.cells (netCells Ab An As Ar cb cn cs cr N) 29)).heap.size := by simp
      obtain ⟨x0, x1, x2, x3, x4, x5, x6, x7⟩ := boxAt_of (heap_alloc_new w (.cells (netCells Ab An As Ar cb cn cs cr N) 29))
      obtain ⟨cN, hcN⟩ : ∃ cN, cN = cellsN N := ⟨_, rfl⟩
      rw [← hcN] at CC hne
      clear hN hok hsl hcN hcr hl
      go_enter Try.func19, Try.ntmps19
      go_wp2_with fail
      generalize w.alloc (.cells (netCells Ab An As Ar cb cn cs cr N) 29) = w0 at *
      refine (CC.out _ hB0.out).mono ?_
      rintro e w1 ⟨rfl, hb1⟩
      have HB1 := Lib.hid (hB0.out.trans (hb1.mono (Nat.le_of_lt hsz0)))
      clear x0 x1 x2 x3 x4 x5 x6 x7 hb1 CC
      go_wp2
      go_ret
      exact ⟨rfl, HB1.out⟩
  · rw [chkN_no hok]
    have CC := Lib.hid (fun W (hW : Below w.heap.size w W) => count_no Ab An As Ar cb cn cs cr N W (hN.keep hW) hl hok hcr)
    have hB0 := Lib.hid ((Below.refl w.heap.size w).alloc (Nat.le_refl _) (.cells (netCells Ab An As Ar cb cn cs cr N) 29))
    have hsz0 : w.heap.size < (w.alloc (.cells (netCells Ab An As Ar cb cn cs cr N) 29)).heap.size := by simp
    obtain ⟨x0, x1, x2, x3, x4, x5, x6, x7⟩ := boxAt_of (heap_alloc_new w (.cells (netCells Ab An As Ar cb cn cs cr N) 29))
    clear hN hok hcr hl
    go_enter Try.func19, Try.ntmps19
    go_wp2_with fail
    generalize w.alloc (.cells (netCells Ab An As Ar cb cn cs cr N) 29) = w0 at *
    refine (CC.out _ hB0.out).mono ?_
    rintro e w1 ⟨rfl, hb1⟩
    have HB1 := Lib.hid (hB0.out.trans (hb1.mono (Nat.le_of_lt hsz0)))
    clear x0 x1 x2 x3 x4 x5 x6 x7 hb1 CC
    go_wp2
    go_ret
    exact ⟨rfl, HB1.out⟩
set_option maxHeartbeats 4000000 in
theorem slots_bad (Ab An As Ar B : Option Addr) (cb cn cs cr d : Nat) (N : NetD) (s : List Bool) (w : World) (hN : NetAt w Ab An As Ar N) (hl : NetLen N) (hcr : N.robots.length ≤ cr) (hz : chkN N s ≠ 0) :
    Calls Try.prog 9 #[.agg #[.slice Ab N.blocks.length cb, .slice An N.next.length cn, .slice As N.spurs.length cs, .slice Ar N.robots.length cr, Iv N.queue, Iv N.aging, Iv N.detours, Iv N.patience], .slice B s.length d] w fun e w' => e = .returned (.tuple #[.int .i64 0, .int .i64 (chkN N s)]) ∧ Below w.heap.size w w' := by
  have CC := Lib.hid (fun W (hW : Below w.heap.size w W) => checkX_c Ab An As Ar B cb cn cs cr d N s W (hN.keep hW) hl hcr)
  have hzb : (chkN N s != 0) = true := by rw [bne_iff_ne]; exact hz
  have hB0 := Lib.hid ((Below.refl w.heap.size w).alloc (Nat.le_refl _) (.cells (netCells Ab An As Ar cb cn cs cr N) 29))
  have hsz0 : w.heap.size < (w.alloc (.cells (netCells Ab An As Ar cb cn cs cr N) 29)).heap.size := by simp
  obtain ⟨x0, x1, x2, x3, x4, x5, x6, x7⟩ := boxAt_of (heap_alloc_new w (.cells (netCells Ab An As Ar cb cn cs cr N) 29))
  clear hN hcr hl hz
  generalize chkN N s = z at *
  go_enter Try.func9, Try.ntmps9
  go_wp2_with fail
  generalize w.alloc (.cells (netCells Ab An As Ar cb cn cs cr N) 29) = w0 at *
  refine (CC.out _ hB0.out).mono ?_
  rintro e w1 ⟨rfl, hb1⟩
  have HB1 := Lib.hid (hB0.out.trans (hb1.mono (Nat.le_of_lt hsz0)))
  clear x0 x1 x2 x3 x4 x5 x6 x7 hb1 CC
  go_wp2
  go_ret2
  exact ⟨rfl, HB1.out⟩
set_option maxHeartbeats 4000000 in
theorem carries_bad (Ab An As Ar B : Option Addr) (cb cn cs cr d : Nat) (N : NetD) (s : List Bool) (f : Int) (w : World) (hN : NetAt w Ab An As Ar N) (hl : NetLen N) (hcr : N.robots.length ≤ cr) (hz : chkN N s ≠ 0) :
    Calls Try.prog 11 #[.agg #[.slice Ab N.blocks.length cb, .slice An N.next.length cn, .slice As N.spurs.length cs, .slice Ar N.robots.length cr, Iv N.queue, Iv N.aging, Iv N.detours, Iv N.patience], .slice B s.length d, .int .i64 f] w fun e w' => e = .returned (.tuple #[.bool false, .int .i64 (chkN N s)]) ∧ Below w.heap.size w w' := by
  have CC := Lib.hid (fun W (hW : Below w.heap.size w W) => slots_bad Ab An As Ar B cb cn cs cr d N s W (hN.keep hW) hl hcr hz)
  have hzb : (chkN N s != 0) = true := by rw [bne_iff_ne]; exact hz
  have hB0 := Lib.hid ((Below.refl w.heap.size w).alloc (Nat.le_refl _) (.cells (netCells Ab An As Ar cb cn cs cr N) 29))
  have hsz0 : w.heap.size < (w.alloc (.cells (netCells Ab An As Ar cb cn cs cr N) 29)).heap.size := by simp
  obtain ⟨x0, x1, x2, x3, x4, x5, x6, x7⟩ := boxAt_of (heap_alloc_new w (.cells (netCells Ab An As Ar cb cn cs cr N) 29))
  clear hN hcr hl hz
  generalize chkN N s = z at *
  go_enter Try.func11, Try.ntmps11
  go_wp2_with fail
  generalize w.alloc (.cells (netCells Ab An As Ar cb cn cs cr N) 29) = w0 at *
  refine (CC.out _ hB0.out).mono ?_
  rintro e w1 ⟨rfl, hb1⟩
  have HB1 := Lib.hid (hB0.out.trans (hb1.mono (Nat.le_of_lt hsz0)))
  clear x0 x1 x2 x3 x4 x5 x6 x7 hb1 CC
  go_wp2
  go_ret2
  exact ⟨rfl, HB1.out⟩
set_option maxHeartbeats 4000000 in
theorem allowed_bad (Ab An As Ar B : Option Addr) (cb cn cs cr d : Nat) (N : NetD) (s : List Bool) (b f : Int) (w : World) (hN : NetAt w Ab An As Ar N) (hl : NetLen N) (hcr : N.robots.length ≤ cr) (hz : chkN N s ≠ 0) :
    Calls Try.prog 13 #[.agg #[.slice Ab N.blocks.length cb, .slice An N.next.length cn, .slice As N.spurs.length cs, .slice Ar N.robots.length cr, Iv N.queue, Iv N.aging, Iv N.detours, Iv N.patience], .slice B s.length d, .int .i64 b, .int .i64 f] w fun e w' => e = .returned (.tuple #[.bool false, .int .i64 (chkN N s)]) ∧ Below w.heap.size w w' := by
  have CC := Lib.hid (fun W (hW : Below w.heap.size w W) => checkX_c Ab An As Ar B cb cn cs cr d N s W (hN.keep hW) hl hcr)
  have hzb : (chkN N s != 0) = true := by rw [bne_iff_ne]; exact hz
  have hB0 := Lib.hid ((Below.refl w.heap.size w).alloc (Nat.le_refl _) (.cells (netCells Ab An As Ar cb cn cs cr N) 29))
  have hsz0 : w.heap.size < (w.alloc (.cells (netCells Ab An As Ar cb cn cs cr N) 29)).heap.size := by simp
  obtain ⟨x0, x1, x2, x3, x4, x5, x6, x7⟩ := boxAt_of (heap_alloc_new w (.cells (netCells Ab An As Ar cb cn cs cr N) 29))
  clear hN hcr hl hz
  generalize chkN N s = z at *
  go_enter Try.func13, Try.ntmps13
  go_wp2_with fail
  generalize w.alloc (.cells (netCells Ab An As Ar cb cn cs cr N) 29) = w0 at *
  refine (CC.out _ hB0.out).mono ?_
  rintro e w1 ⟨rfl, hb1⟩
  have HB1 := Lib.hid (hB0.out.trans (hb1.mono (Nat.le_of_lt hsz0)))
  clear x0 x1 x2 x3 x4 x5 x6 x7 hb1 CC
  go_wp2
  go_ret2
  exact ⟨rfl, HB1.out⟩
set_option maxHeartbeats 4000000 in
theorem carries_fleet (Ab An As Ar B : Option Addr) (cb cn cs cr d : Nat) (N : NetD) (s : List Bool) (f : Int) (w : World) (hN : NetAt w Ab An As Ar N) (hok : NetOk N) (hcr : N.robots.length ≤ cr) (hs : Holds w B (s.map Bo)) (hsl : (s.length : Int) = cellsN N) (hd : s.length ≤ d) (hf : ¬ (0 ≤ f ∧ f ≤ 8)) :
    Calls Try.prog 11 #[.agg #[.slice Ab N.blocks.length cb, .slice An N.next.length cn, .slice As N.spurs.length cs, .slice Ar N.robots.length cr, Iv N.queue, Iv N.aging, Iv N.detours, Iv N.patience], .slice B s.length d, .int .i64 f] w fun e w' => e = .returned (.tuple #[.bool false, .int .i64 19]) ∧ Below w.heap.size w w' := by
  have CC := Lib.hid (fun W (hW : Below w.heap.size w W) => devSlots_c Ab An As Ar B cb cn cs cr d N s W (hN.keep hW) hok hcr (hs.keep hW) hsl hd)
  have hcs : f < 0 ∨ (¬ f < 0 ∧ 8 < f) := by omega
  have hB0 := Lib.hid ((Below.refl w.heap.size w).alloc (Nat.le_refl _) (.cells (netCells Ab An As Ar cb cn cs cr N) 29))
  have hsz0 : w.heap.size < (w.alloc (.cells (netCells Ab An As Ar cb cn cs cr N) 29)).heap.size := by simp
  obtain ⟨x0, x1, x2, x3, x4, x5, x6, x7⟩ := boxAt_of (heap_alloc_new w (.cells (netCells Ab An As Ar cb cn cs cr N) 29))
  clear hN hcr hok hs hsl hd hf
  generalize openSum s N.spurs N.spurs.length = z at *
  rcases hcs with h1 | ⟨h1, h2⟩
  all_goals
    go_enter Try.func11, Try.ntmps11
    go_wp2_with fail
    generalize w.alloc (.cells (netCells Ab An As Ar cb cn cs cr N) 29) = w0 at *
    refine (CC.out _ hB0.out).mono ?_
    rintro e w1 ⟨rfl, hb1⟩
    have HB1 := Lib.hid (hB0.out.trans (hb1.mono (Nat.le_of_lt hsz0)))
    clear x0 x1 x2 x3 x4 x5 x6 x7 hb1 CC
    go_wp2
    go_ret2
    exact ⟨rfl, HB1.out⟩
set_option maxHeartbeats 4000000 in
theorem allowed_block (Ab An As Ar B : Option Addr) (cb cn cs cr d : Nat) (N : NetD) (s : List Bool) (b f : Int) (w : World) (hN : NetAt w Ab An As Ar N) (hok : NetOk N) (hcr : N.robots.length ≤ cr) (hsl : (s.length : Int) = cellsN N) (hf : ¬ (0 ≤ b ∧ b < N.blocks.length)) :
    Calls Try.prog 13 #[.agg #[.slice Ab N.blocks.length cb, .slice An N.next.length cn, .slice As N.spurs.length cs, .slice Ar N.robots.length cr, Iv N.queue, Iv N.aging, Iv N.detours, Iv N.patience], .slice B s.length d, .int .i64 b, .int .i64 f] w fun e w' => e = .returned (.tuple #[.bool false, .int .i64 19]) ∧ Below w.heap.size w w' := by
  have CC := Lib.hid (fun W (hW : Below w.heap.size w W) => check_c Ab An As Ar B cb cn cs cr d N s W (hN.keep hW) hok hcr hsl)
  have hcs : b < 0 ∨ (¬ b < 0 ∧ (N.blocks.length : Int) ≤ b) := by omega
  have HX := Lib.hid (boxAt_of (heap_alloc_new w (.cells (netCells Ab An As Ar cb cn cs cr N) 29)))
  have hB0 := Lib.hid ((Below.refl w.heap.size w).alloc (Nat.le_refl _) (.cells (netCells Ab An As Ar cb cn cs cr N) 29))
  have hsz0 : w.heap.size < (w.alloc (.cells (netCells Ab An As Ar cb cn cs cr N) 29)).heap.size := by simp
  obtain ⟨x0, x1, x2, x3, x4, x5, x6, x7⟩ := boxAt_of (heap_alloc_new w (.cells (netCells Ab An As Ar cb cn cs cr N) 29))
  clear hN hcr hok hsl hf
  rcases hcs with h1 | ⟨h1, h2⟩
  all_goals
    go_enter Try.func13, Try.ntmps13
    go_wp2_with fail
    generalize w.alloc (.cells (netCells Ab An As Ar cb cn cs cr N) 29) = w0 at *
    refine (CC.out _ hB0.out).mono ?_
    rintro e w1 ⟨rfl, hb1⟩
    have HB0 := Lib.hid hb1
    have HB1 := Lib.hid (hB0.out.trans (hb1.mono (Nat.le_of_lt hsz0)))
    clear x0 x1 x2 x3 x4 x5 x6 x7 hb1 CC
    obtain ⟨x0, _, _, _, _, _, _, _⟩ := HX.out.keep hsz0 HB0.out
    go_wp2
    go_ret2
    exact ⟨rfl, HB1.out⟩
set_option maxRecDepth 100000 in
set_option maxHeartbeats 8000000 in
theorem allowedG_c (Ab An As Ar B : Option Addr) (cb cn cs cr d b : Nat) (N : NetD) (s : List Bool) (f : Int) (w : World) (hN : NetAt w Ab An As Ar N) (hok : NetOk N) (hcr : N.robots.length ≤ cr) (hs : Holds w B (s.map Bo)) (hsl : (s.length : Int) = cellsN N) (hb : b < N.blocks.length) (ca : Bool) (er : Int) (hC : ∀ W G, Below w.heap.size w W → Holds W (some ⟨G, 0, none⟩) ((s.set b true).map Bo) → Calls Try.prog 11 #[.agg #[.slice Ab N.blocks.length cb, .slice An N.next.length cn, .slice As N.spurs.length cs, .slice Ar N.robots.length cr, Iv N.queue, Iv N.aging, Iv N.detours, Iv N.patience], .slice (some ⟨G, 0, none⟩) s.length s.length, .int .i64 f] W fun e w' => e = .returned (.tuple #[.bool ca, .int .i64 er]) ∧ Below W.heap.size W w') :
    Calls Try.prog 13 #[.agg #[.slice Ab N.blocks.length cb, .slice An N.next.length cn, .slice As N.spurs.length cs, .slice Ar N.robots.length cr, Iv N.queue, Iv N.aging, Iv N.detours, Iv N.patience], .slice B s.length d, .int .i64 b, .int .i64 f] w fun e w' => e = .returned (.tuple #[.bool (ca && !(s.getD b false)), .int .i64 er]) ∧ Below w.heap.size w w' := by
  have hcl : N.blocks.length ≤ s.length := by
    have h3 := slotsK_bounds (l := N.spurs) (fun s hs => by have := (hok.spurOk s hs).slots; omega) N.spurs.length (Nat.le_refl _)
    have h5 : cellsN N = N.blocks.length + slotsK N.spurs N.spurs.length := rfl
    omega
  have hc48 := cellsN_le hok.few'
  have h48 : s.length ≤ 48 := by omega
  have hbs : b < s.length := by omega
  have CK := Lib.hid (fun W (hW : Below w.heap.size w W) => check_c Ab An As Ar B cb cn cs cr d N s W (hN.keep hW) hok hcr hsl)
  have CC : Hid (∀ W G, Below w.heap.size w W → W.heap[G]? = some (.cells (((s.set b true).map Bo).toArray) 4 (0, 0)) → Calls Try.prog 11 #[.agg #[.slice Ab N.blocks.length cb, .slice An N.next.length cn, .slice As N.spurs.length cs, .slice Ar N.robots.length cr, Iv N.queue, Iv N.aging, Iv N.detours, Iv N.patience], .slice (some ⟨G, 0, none⟩) s.length s.length, .int .i64 f] W fun e w' => e = .returned (.tuple #[.bool ca, .int .i64 er]) ∧ Below W.heap.size W w') := Lib.hid (fun W G hW hG => hC W G hW (holds_row hG rfl))
  obtain ⟨bS, oS, rfl, hbS, hcS⟩ := hs.at_ (by rw [List.length_map]; omega)
  have HSh : Hid (∀ W, Below w.heap.size w W → ∀ j (h : j < s.length), W.cell? ⟨bS, oS + j, none⟩ = some (Bo s[j])) := Lib.hid (fun W hW j h => by
    have e := hcS j (by rw [List.length_map]; exact h)
    rw [List.getElem_map] at e
    exact (hW.cell (p := ⟨bS, oS + j, none⟩) hbS).trans e)
  have HMay : Hid (s.getD b false = s[b]) := Lib.hid (by rw [List.getD_eq_getElem?_getD, List.getElem?_eq_getElem hbs]; rfl)
  have hB0 := Lib.hid ((Below.refl w.heap.size w).alloc (Nat.le_refl _) (.cells (netCells Ab An As Ar cb cn cs cr N) 29))
  have HX := Lib.hid (boxAt_of (heap_alloc_new w (.cells (netCells Ab An As Ar cb cn cs cr N) 29)))
  have hsz0 : w.heap.size < (w.alloc (.cells (netCells Ab An As Ar cb cn cs cr N) 29)).heap.size := by simp
  obtain ⟨x0, x1, x2, x3, x4, x5, x6, x7⟩ := boxAt_of (heap_alloc_new w (.cells (netCells Ab An As Ar cb cn cs cr N) 29))
  clear hN hok hsl hs hcr hcl hcS hc48 hC
  rw [HMay.out]
  clear HMay
  have mk := make_bools s.length (by omega)
  go_enter Try.func13, Try.ntmps13
  go_wp2_with fail
  generalize w.alloc (.cells (netCells Ab An As Ar cb cn cs cr N) 29) = w0 at *
  refine (CK.out _ hB0.out).mono ?_
  rintro e w1 ⟨rfl, hb1⟩
  have HB1 : Hid (Below w0.heap.size w0 w1) := Lib.hid hb1
  have HBw1 := Lib.hid (hB0.out.trans (hb1.mono (Nat.le_of_lt hsz0)))
  clear x0 x1 x2 x3 x4 x5 x6 x7 hb1 CK
  obtain ⟨x0, _, _, _, _, _, _, _⟩ := HX.out.keep hsz0 HB1.out
  have HBa : Hid (∀ ob, Below w.heap.size w (w1.alloc ob)) := Lib.hid (fun ob => HBw1.out.alloc HBw1.out.size ob)
  have HZ1 : Hid ((w1.alloc (.cells (madeCells #[.bool false] s.length) 4)).heap[w1.heap.size]? = some (.cells ((opens s.length).map Bo).toArray 4 (0, 0))) := Lib.hid (by
    rw [heap_alloc_new, ← made_bools])
  have hmin : (s.map Bo).length = Nat.min s.length s.length := by simp
  have hfit : 0 + (s.map Bo).length ≤ ((opens s.length).map Bo).length := by simp [opens]
  have hone : ∀ v ∈ s.map Bo, v.oneCell' = true := fun v hv => by
    obtain ⟨x, _, rfl⟩ := List.mem_map.1 hv
    rfl
  have hlo : ((opens s.length).map Bo).length = (s.map Bo).length := by simp [opens]
  have HOne := Lib.hid hone
  have HLo := Lib.hid hlo
  clear hone hlo
  have hbw2 : Below w0.heap.size w0 (w1.alloc (.cells (madeCells #[.bool false] s.length) 4)) := HB1.out.alloc HB1.out.size _
  have HB2 := Lib.hid hbw2
  have hs2 : w1.heap.size + 1 = (w1.alloc (.cells (madeCells #[.bool false] s.length) 4)).heap.size := by simp
  have HBw2 := Lib.hid (HBa.out (.cells (madeCells #[.bool false] s.length) 4))
  have hz1 : w0.heap.size ≤ w1.heap.size := HB1.out.size
  clear hbw2
  go_upto_region 7 with fail
  clear mk
  generalize w1.alloc (.cells (madeCells #[.bool false] s.length) 4) = w2 at *
  obtain ⟨G, hG⟩ : ∃ G, G = w1.heap.size := ⟨_, rfl⟩
  rw [← hG] at HZ1 hs2 hz1 ⊢
  clear hG
  clear HB1 HBw1 HBa x0
  have hcs : 0 < (s.map Bo).length → (some (⟨G, 0, none⟩ : Addr)) = some ⟨G, 0, none⟩ ∧ ∃ ad : Addr, some (⟨bS, oS, none⟩ : Addr) = some ad ∧ ∀ j v, (s.map Bo)[j]? = some v → w2.cell? (ad.add j) = some v := fun _ => by
    refine ⟨rfl, _, rfl, fun j v hv => ?_⟩
    obtain ⟨hj, hv⟩ := List.getElem?_eq_some_iff.1 hv
    rw [List.length_map] at hj
    rw [List.getElem_map] at hv
    rw [← hv, show ((⟨bS, oS, none⟩ : Addr).add j) = ⟨bS, oS + j, none⟩ by simp [Addr.add]]
    exact HSh.out _ HBw2.out j hj
  have HCs := Lib.hid hcs
  clear hcs
  go_wp2_with (refine wpList_copy_splice rfl _ _ _ _ (by rfl) 4 (by kernel_rfl) (by kernel_rfl) (some ⟨G, 0, none⟩) (some ⟨bS, oS, none⟩) s.length s.length s.length d (by rfl) (by rfl) G 0 ((opens s.length).map Bo) 4 HZ1.out (s.map Bo) hmin HCs.out hfit HOne.out G w2 (Below.refl _ _) (Nat.le_refl _) ?_)
  intro w3 hg3 hb3
  have hG3 : w3.heap[G]? = some (.cells ((s.map Bo).toArray) 4 (0, 0)) := by
    have h := hg3.out
    rw [splice_all _ _ HLo.out] at h
    exact h
  have HG4 : Hid ((w3.setCell ⟨G, b, none⟩ (.bool true)).heap[G]? = some (.cells (((s.set b true).map Bo).toArray) 4 (0, 0))) := Lib.hid (by
    rw [set1_at hG3, List.setIfInBounds_toArray, List.map_set])
  have g1 : w3.cell? ⟨G, b, none⟩ = some (Bo s[b]) := by
    rw [cell_of_row _ _ b _ _ _ hG3]
    simp [hbs]
  have g2 : w3.frozen? ⟨G, b, none⟩ = false := by simp [World.frozen?, hG3]
  have HB3 : Hid (Below w0.heap.size w0 w3) := Lib.hid (HB2.out.trans (hb3.mono hz1))
  have HB4 : Hid (Below w0.heap.size w0 (w3.setCell ⟨G, b, none⟩ (.bool true))) := Lib.hid (below_put HB3.out hz1)
  have HBw4 := Lib.hid (hB0.out.trans (HB4.out.mono (Nat.le_of_lt hsz0)))
  obtain ⟨x0, x1, x2, x3, x4, x5, x6, x7⟩ := HX.out.keep hsz0 HB3.out
  have hn1 : G ≠ w.heap.size := by omega
  have hn2 : w.heap.size ≠ G := by omega
  have CC4 := Lib.hid (CC.out _ G HBw4.out HG4.out)
  clear hG3 hg3 hb3 HB3 HB2 HCs HZ1 HOne HLo hmin hfit CC HG4 hs2
  go_wp2_with fail
  refine CC4.out.mono ?_
  rintro e w5 ⟨rfl, hb5⟩
  have HB5 := Lib.hid (HBw4.out.trans (hb5.mono HBw4.out.size))
  clear hb5 HB4 HBw4 CC4 x0 x1 x2 x3 x4 x5 x6 x7
  have v1 := HSh.out _ HB5.out b hbs
  clear HSh g1 g2
  rcases ca with _ | _
  · go_wp2
    go_ret2
    exact ⟨rfl, HB5.out⟩
  · go_wp2
    go_ret2
    exact ⟨by first | rfl | simp, HB5.out⟩
end Go.Proofs.Ythfhplhdfnebhaa
namespace Go.Proofs.Ythfhplhdfnebhaa
open Go Go.RowKit Fl

open Classical in
/-- The first error of a network, its shut cells and a fleet. -/
noncomputable def chkF (N : NetD) (s : List Bool) (f : Int) : Int := if NetOk N then (if (s.length : Int) = cellsN N ∧ 0 ≤ f ∧ f ≤ 8 then 0 else 19) else 20
theorem chkF_ok {N : NetD} {s : List Bool} {f : Int} (h1 : NetOk N) (h2 : (s.length : Int) = cellsN N ∧ 0 ≤ f ∧ f ≤ 8) : chkF N s f = 0 := by unfold chkF; rw [if_pos h1, if_pos h2]
theorem chkF_out {N : NetD} {s : List Bool} {f : Int} (h1 : NetOk N) (h2 : ¬ ((s.length : Int) = cellsN N ∧ 0 ≤ f ∧ f ≤ 8)) : chkF N s f = 19 := by unfold chkF; rw [if_pos h1, if_neg h2]
theorem chkF_no {N : NetD} {s : List Bool} {f : Int} (h1 : ¬ NetOk N) : chkF N s f = 20 := by unfold chkF; rw [if_neg h1]
theorem chkF_zero {N : NetD} {s : List Bool} {f : Int} (h : chkF N s f = 0) : NetOk N ∧ (s.length : Int) = cellsN N ∧ 0 ≤ f ∧ f ≤ 8 := by
  by_cases h1 : NetOk N
  · by_cases h2 : (s.length : Int) = cellsN N ∧ 0 ≤ f ∧ f ≤ 8
    · exact ⟨h1, h2⟩
    · rw [chkF_out h1 h2] at h; omega
  · rw [chkF_no h1] at h; omega
set_option maxRecDepth 100000 in
set_option maxHeartbeats 4000000 in
theorem refCheckF_c (Ab An As Ar B : Option Addr) (cb cn cs cr d : Nat) (N : NetD) (s : List Bool) (f : Int) (w : World) (hN : NetAt w Ab An As Ar N) (hl : NetLen N) (hcr : N.robots.length ≤ cr) :
    Calls Try.prog 21 #[.agg #[.slice Ab N.blocks.length cb, .slice An N.next.length cn, .slice As N.spurs.length cs, .slice Ar N.robots.length cr, Iv N.queue, Iv N.aging, Iv N.detours, Iv N.patience], .slice B s.length d, .int .i64 f] w fun e w' => e = .returned (.int .i64 (chkF N s f)) ∧ Below w.heap.size w w' := by
  have CV := Lib.hid (fun W (hW : Below w.heap.size w W) => refValid_x Ab An As Ar cb cn cs cr N W (hN.keep hW) hl hcr)
  have CC := Lib.hid (fun W (hW : Below w.heap.size w W) (hok : NetOk N) => cells_c Ab An As Ar cb cn cs cr N W (hN.keep hW) hok.few')
  have hB0 := Lib.hid ((Below.refl w.heap.size w).alloc (Nat.le_refl _) (.cells (netCells Ab An As Ar cb cn cs cr N) 29))
  have HX := Lib.hid (boxAt_of (heap_alloc_new w (.cells (netCells Ab An As Ar cb cn cs cr N) 29)))
  have hsz0 : w.heap.size < (w.alloc (.cells (netCells Ab An As Ar cb cn cs cr N) 29)).heap.size := by simp
  obtain ⟨x0, x1, x2, x3, x4, x5, x6, x7⟩ := boxAt_of (heap_alloc_new w (.cells (netCells Ab An As Ar cb cn cs cr N) 29))
  have HOk2 : Hid (NetOk N → (s.length : Int) = cellsN N ∧ 0 ≤ f ∧ f ≤ 8 → chkF N s f = 0) := Lib.hid (fun hg h => chkF_ok hg h)
  have HBd2 : Hid (NetOk N → ¬ ((s.length : Int) = cellsN N ∧ 0 ≤ f ∧ f ≤ 8) → chkF N s f = 19) := Lib.hid (fun hg h => chkF_out hg h)
  have HNo2 : Hid (¬ NetOk N → chkF N s f = 20) := Lib.hid (fun hg => chkF_no hg)
  generalize chkF N s f = z at *
  clear hN hl hcr
  go_enter Try.func21, Try.ntmps21
  go_wp2_with fail
  generalize w.alloc (.cells (netCells Ab An As Ar cb cn cs cr N) 29) = w0 at *
  refine (CV.out _ hB0.out).mono ?_
  intro e w1 hE
  obtain ⟨hE, hb1⟩ := hE.use
  have HB1 : Hid (Below w0.heap.size w0 w1) := Lib.hid hb1
  have HBw1 := Lib.hid (hB0.out.trans (hb1.mono (Nat.le_of_lt hsz0)))
  clear x0 x1 x2 x3 x4 x5 x6 x7 hb1 CV
  obtain ⟨x0, x1, x2, x3, x4, x5, x6, x7⟩ := HX.out.keep hsz0 HB1.out
  obtain ⟨hg, rfl⟩ | ⟨hg, rfl⟩ := hE
  rotate_left
  · have HZ := Lib.hid (HNo2.out hg)
    clear hg CC HOk2 HBd2 HNo2
    go_wp2
    go_ret
    exact ⟨gr_int HZ.out.symm, HBw1.out⟩
  have HG := Lib.hid hg
  have CC1 := Lib.hid (CC.out _ HBw1.out hg)
  have HOk := Lib.hid (HOk2.out hg)
  have HBd := Lib.hid (HBd2.out hg)
  clear hg CC HOk2 HBd2 HNo2
  generalize cellsN N = cN at *
  go_wp2_with fail
  refine CC1.out.mono ?_
  rintro e w2 ⟨rfl, hb2⟩
  have HB2 := Lib.hid (HBw1.out.trans (hb2.mono HBw1.out.size))
  clear x0 x1 x2 x3 x4 x5 x6 x7 hb2 CC1
  have hcs : ((s.length : Int) != cN) = true ∨ (((s.length : Int) != cN) = false ∧ f < 0) ∨ (((s.length : Int) != cN) = false ∧ ¬ f < 0 ∧ 8 < f) ∨ (((s.length : Int) != cN) = false ∧ ¬ f < 0 ∧ ¬ 8 < f) := by
    by_cases h : (s.length : Int) = cN
    · have e : ((s.length : Int) != cN) = false := by rw [h]; simp
      rw [e]
      simp only [Bool.false_eq_true, false_or, true_and]
      omega
    · exact .inl (by rw [bne_iff_ne]; exact h)
  rcases hcs with h1 | ⟨h1, h2⟩ | ⟨h1, h2, h3⟩ | ⟨h1, h2, h3⟩
  · have HZ : Hid (z = 19) := Lib.hid (HBd.out (fun h => by rw [bne_iff_ne] at h1; exact h1 h.1))
    clear HBd HOk
    go_wp2
    go_ret
    exact ⟨gr_int HZ.out.symm, HB2.out⟩
  · have HZ : Hid (z = 19) := Lib.hid (HBd.out (fun h => by omega))
    clear HBd HOk
    go_wp2
    go_ret
    exact ⟨gr_int HZ.out.symm, HB2.out⟩
  · have HZ : Hid (z = 19) := Lib.hid (HBd.out (fun h => by omega))
    clear HBd HOk
    go_wp2
    go_ret
    exact ⟨gr_int HZ.out.symm, HB2.out⟩
  · have HZ : Hid (z = 0) := Lib.hid (HOk.out ⟨by simpa using h1, by omega, by omega⟩)
    clear HBd HOk
    go_wp2
    go_ret
    exact ⟨gr_int HZ.out.symm, HB2.out⟩
theorem spurIn_len {N : NetD} {s : List Bool} (hok : NetOk N) (hsl : (s.length : Int) = cellsN N) : ∀ x ∈ N.spurs, SpurIn s.length x := fun x hx => by
  have h := hok.spurIn x hx
  rwa [← hsl, Int.toNat_natCast] at h
theorem len_1000 {N : NetD} {s : List Bool} (hok : NetOk N) (hsl : (s.length : Int) = cellsN N) : s.length ≤ 1000 ∧ N.blocks.length ≤ s.length := by
  have h := cellsN_le hok.few'
  have h3 := slotsK_bounds (l := N.spurs) (fun s hs => by have := (hok.spurOk s hs).slots; omega) N.spurs.length (Nat.le_refl _)
  have h5 : cellsN N = N.blocks.length + slotsK N.spurs N.spurs.length := rfl
  omega
theorem refSlotsV_c (Ab An As Ar B : Option Addr) (cb cn cs cr d : Nat) (N : NetD) (s : List Bool) (w : World) (hN : NetAt w Ab An As Ar N) (hok : NetOk N) (hs : Holds w B (s.map Bo)) (hsl : (s.length : Int) = cellsN N) :
    Calls Try.prog 22 #[.agg #[.slice Ab N.blocks.length cb, .slice An N.next.length cn, .slice As N.spurs.length cs, .slice Ar N.robots.length cr, Iv N.queue, Iv N.aging, Iv N.detours, Iv N.patience], .slice B s.length d] w fun e w' => e = .returned (.int .i64 (slotS N s)) ∧ Below w.heap.size w w' :=
  slots_c Ab An As Ar B cb cn cs cr d N s w hN hs hok.spurs6 (len_1000 hok hsl).1 (spurIn_len hok hsl)
theorem refMutN_c {Ab An As Ar B : Option Addr} {cn d : Nat} {N : NetD} {s : List Bool} {W : World} (hN : NetAt W Ab An As Ar N) (hok : NetOk N) (hs : Holds W B (s.map Bo)) (hl : N.blocks.length ≤ s.length) :
    Calls Try.prog 38 #[.slice An N.next.length cn, .slice B N.blocks.length d] W fun e w' => (∃ k : Int, e = .returned (.tuple #[.bool (allN N s), .int .i64 k])) ∧ Below W.heap.size W w' := by
  have h1 : (s.take N.blocks.length).length = N.blocks.length := by rw [List.length_take]; omega
  have h2 := hs.front N.blocks.length
  rw [← List.map_take] at h2
  have h24 := hok.few
  have h := refMutual_c An B cn d N.next (s.take N.blocks.length) W hN.next h2 (by rw [hok.lanes]; omega) (fun r hr => by have := hok.outs r hr; omega)
  rw [h1] at h
  unfold allN
  exact h.mono fun e w' ⟨a, b⟩ => ⟨⟨_, a⟩, b⟩
set_option maxRecDepth 100000 in
set_option maxHeartbeats 8000000 in
theorem refCarries_c (Ab An As Ar B : Option Addr) (cb cn cs cr d : Nat) (N : NetD) (s : List Bool) (f : Int) (w : World) (hN : NetAt w Ab An As Ar N) (hok : NetOk N) (hs : Holds w B (s.map Bo)) (hsl : (s.length : Int) = cellsN N) (hd : s.length ≤ d) :
    Calls Try.prog 24 #[.agg #[.slice Ab N.blocks.length cb, .slice An N.next.length cn, .slice As N.spurs.length cs, .slice Ar N.robots.length cr, Iv N.queue, Iv N.aging, Iv N.detours, Iv N.patience], .slice B s.length d, .int .i64 f] w fun e w' => e = .returned (.bool (carB N s f)) ∧ Below w.heap.size w w' := by
  have hcl := (len_1000 hok hsl).2
  have hbd : (N.blocks.length : Int) ≤ (d : Int) := by omega
  have CS := Lib.hid (fun W (hW : Below w.heap.size w W) => refSlotsV_c Ab An As Ar B cb cn cs cr d N s W (hN.keep hW) hok (hs.keep hW) hsl)
  have CM := Lib.hid (fun W (hW : Below w.heap.size w W) => refMutN_c (cn := cn) (d := d) (hN.keep hW) hok (hs.keep hW) hcl)
  have HCar : Hid (carB N s f = (allN N s && decide (f ≤ slotS N s))) := Lib.hid rfl
  have hB0 := Lib.hid ((Below.refl w.heap.size w).alloc (Nat.le_refl _) (.cells (netCells Ab An As Ar cb cn cs cr N) 29))
  have HX := Lib.hid (boxAt_of (heap_alloc_new w (.cells (netCells Ab An As Ar cb cn cs cr N) 29)))
  have hsz0 : w.heap.size < (w.alloc (.cells (netCells Ab An As Ar cb cn cs cr N) 29)).heap.size := by simp
  obtain ⟨x0, x1, x2, x3, x4, x5, x6, x7⟩ := boxAt_of (heap_alloc_new w (.cells (netCells Ab An As Ar cb cn cs cr N) 29))
  clear hN hok hsl hs hcl
  rw [HCar.out]
  clear HCar
  generalize slotS N s = sl at *
  generalize allN N s = al at *
  go_enter Try.func24, Try.ntmps24
  go_wp2_with fail
  generalize w.alloc (.cells (netCells Ab An As Ar cb cn cs cr N) 29) = w0 at *
  have HW := Lib.hid (fun W (hW : Below w0.heap.size w0 W) => HX.out.keep hsz0 hW)
  have HBW := Lib.hid (fun W (hW : Below w0.heap.size w0 W) => hB0.out.trans (hW.mono (Nat.le_of_lt hsz0)))
  go_region_held3 (fun W => W.cell? ⟨w.heap.size, 0, none⟩ = some (.slice Ab N.blocks.length cb) ∧ W.cell? ⟨w.heap.size, 1, none⟩ = some (.slice An N.next.length cn)) (first | exact ⟨(HW.out _ ((Below.refl _ _).drew)).c0, (HW.out _ ((Below.refl _ _).drew)).c1⟩ | exact ⟨(HW.out _ HB2.out).c0, (HW.out _ HB2.out).c1⟩) (first | (go_at_call 38; refine (CM.out _ (HBW.out _ ((Below.refl _ _).drew))).mono ?_; rintro e w2 ⟨⟨ke, rfl⟩, hb2⟩; have HB2 : Hid (Below w0.heap.size w0 w2) := Lib.hid (((Below.refl w0.heap.size w0).drew).trans hb2); clear hb2))
  all_goals
    have HBf := Lib.hid (HBW.out _ HB2.out)
    clear CM x0 x1 x2 x3 x4 x5 x6 x7
    obtain ⟨x0, x1, x2, x3, x4, x5, x6, x7⟩ := HW.out _ HB2.out
    rcases al with _ | _
    · go_wp2
      go_ret
      exact ⟨rfl, HBf.out⟩
    · go_wp2_with fail
      refine (CS.out _ HBf.out).mono ?_
      rintro e w4 ⟨rfl, hb4⟩
      have HB4 := Lib.hid (HBf.out.trans (hb4.mono HBf.out.size))
      clear hb4
      go_wp2
      go_ret
      exact ⟨by first | rfl | simp, HB4.out⟩
set_option maxHeartbeats 4000000 in
theorem slotsOf_bad (Ab An As Ar B : Option Addr) (cb cn cs cr d : Nat) (N : NetD) (s : List Bool) (w : World) (hN : NetAt w Ab An As Ar N) (hl : NetLen N) (hcr : N.robots.length ≤ cr) (hz : chkF N s 0 ≠ 0) :
    Calls Try.prog 10 #[.agg #[.slice Ab N.blocks.length cb, .slice An N.next.length cn, .slice As N.spurs.length cs, .slice Ar N.robots.length cr, Iv N.queue, Iv N.aging, Iv N.detours, Iv N.patience], .slice B s.length d] w fun e w' => e = .returned (.tuple #[.int .i64 0, .int .i64 (chkF N s 0)]) ∧ Below w.heap.size w w' := by
  have CC := Lib.hid (fun W (hW : Below w.heap.size w W) => refCheckF_c Ab An As Ar B cb cn cs cr d N s 0 W (hN.keep hW) hl hcr)
  have hzb : (chkF N s 0 != 0) = true := by rw [bne_iff_ne]; exact hz
  have hB0 := Lib.hid ((Below.refl w.heap.size w).alloc (Nat.le_refl _) (.cells (netCells Ab An As Ar cb cn cs cr N) 29))
  have HX := Lib.hid (boxAt_of (heap_alloc_new w (.cells (netCells Ab An As Ar cb cn cs cr N) 29)))
  have hsz0 : w.heap.size < (w.alloc (.cells (netCells Ab An As Ar cb cn cs cr N) 29)).heap.size := by simp
  obtain ⟨x0, x1, x2, x3, x4, x5, x6, x7⟩ := boxAt_of (heap_alloc_new w (.cells (netCells Ab An As Ar cb cn cs cr N) 29))
  clear hN hcr hl hz HX
  generalize chkF N s 0 = z at *
  go_enter Try.func10, Try.ntmps10
  go_wp2_with fail
  generalize w.alloc (.cells (netCells Ab An As Ar cb cn cs cr N) 29) = w0 at *
  refine (CC.out _ hB0.out).mono ?_
  rintro e w1 ⟨rfl, hb1⟩
  have HB1 := Lib.hid (hB0.out.trans (hb1.mono (Nat.le_of_lt hsz0)))
  clear x0 x1 x2 x3 x4 x5 x6 x7 hb1 CC
  go_wp2
  go_ret2
  exact ⟨rfl, HB1.out⟩
set_option maxHeartbeats 4000000 in
theorem carriesOf_bad (Ab An As Ar B : Option Addr) (cb cn cs cr d : Nat) (N : NetD) (s : List Bool) (f : Int) (w : World) (hN : NetAt w Ab An As Ar N) (hl : NetLen N) (hcr : N.robots.length ≤ cr) (hz : chkF N s f ≠ 0) :
    Calls Try.prog 12 #[.agg #[.slice Ab N.blocks.length cb, .slice An N.next.length cn, .slice As N.spurs.length cs, .slice Ar N.robots.length cr, Iv N.queue, Iv N.aging, Iv N.detours, Iv N.patience], .slice B s.length d, .int .i64 f] w fun e w' => e = .returned (.tuple #[.bool false, .int .i64 (chkF N s f)]) ∧ Below w.heap.size w w' := by
  have CC := Lib.hid (fun W (hW : Below w.heap.size w W) => refCheckF_c Ab An As Ar B cb cn cs cr d N s f W (hN.keep hW) hl hcr)
  have hzb : (chkF N s f != 0) = true := by rw [bne_iff_ne]; exact hz
  have hB0 := Lib.hid ((Below.refl w.heap.size w).alloc (Nat.le_refl _) (.cells (netCells Ab An As Ar cb cn cs cr N) 29))
  have HX := Lib.hid (boxAt_of (heap_alloc_new w (.cells (netCells Ab An As Ar cb cn cs cr N) 29)))
  have hsz0 : w.heap.size < (w.alloc (.cells (netCells Ab An As Ar cb cn cs cr N) 29)).heap.size := by simp
  obtain ⟨x0, x1, x2, x3, x4, x5, x6, x7⟩ := boxAt_of (heap_alloc_new w (.cells (netCells Ab An As Ar cb cn cs cr N) 29))
  clear hN hcr hl hz HX
  generalize chkF N s f = z at *
  go_enter Try.func12, Try.ntmps12
  go_wp2_with fail
  generalize w.alloc (.cells (netCells Ab An As Ar cb cn cs cr N) 29) = w0 at *
  refine (CC.out _ hB0.out).mono ?_
  rintro e w1 ⟨rfl, hb1⟩
  have HB1 := Lib.hid (hB0.out.trans (hb1.mono (Nat.le_of_lt hsz0)))
  clear x0 x1 x2 x3 x4 x5 x6 x7 hb1 CC
  go_wp2
  go_ret2
  exact ⟨rfl, HB1.out⟩
set_option maxHeartbeats 4000000 in
theorem slotsOf_ok (Ab An As Ar B : Option Addr) (cb cn cs cr d : Nat) (N : NetD) (s : List Bool) (w : World) (hN : NetAt w Ab An As Ar N) (hl : NetLen N) (hcr : N.robots.length ≤ cr) (hok : NetOk N) (hs : Holds w B (s.map Bo)) (hsl : (s.length : Int) = cellsN N) :
    Calls Try.prog 10 #[.agg #[.slice Ab N.blocks.length cb, .slice An N.next.length cn, .slice As N.spurs.length cs, .slice Ar N.robots.length cr, Iv N.queue, Iv N.aging, Iv N.detours, Iv N.patience], .slice B s.length d] w fun e w' => e = .returned (.tuple #[.int .i64 (slotS N s), .int .i64 0]) ∧ Below w.heap.size w w' := by
  have CC : Hid (∀ W, Below w.heap.size w W → Calls Try.prog 21 #[.agg #[.slice Ab N.blocks.length cb, .slice An N.next.length cn, .slice As N.spurs.length cs, .slice Ar N.robots.length cr, Iv N.queue, Iv N.aging, Iv N.detours, Iv N.patience], .slice B s.length d, .int .i64 0] W fun e w' => e = .returned (.int .i64 0) ∧ Below W.heap.size W w') := Lib.hid (fun W hW => by
    have h := refCheckF_c Ab An As Ar B cb cn cs cr d N s 0 W (hN.keep hW) hl hcr
    rwa [chkF_ok hok ⟨hsl, by omega, by omega⟩] at h)
  have CS := Lib.hid (fun W (hW : Below w.heap.size w W) => refSlotsV_c Ab An As Ar B cb cn cs cr d N s W (hN.keep hW) hok (hs.keep hW) hsl)
  have hB0 := Lib.hid ((Below.refl w.heap.size w).alloc (Nat.le_refl _) (.cells (netCells Ab An As Ar cb cn cs cr N) 29))
  have HX := Lib.hid (boxAt_of (heap_alloc_new w (.cells (netCells Ab An As Ar cb cn cs cr N) 29)))
  have hsz0 : w.heap.size < (w.alloc (.cells (netCells Ab An As Ar cb cn cs cr N) 29)).heap.size := by simp
  obtain ⟨x0, x1, x2, x3, x4, x5, x6, x7⟩ := boxAt_of (heap_alloc_new w (.cells (netCells Ab An As Ar cb cn cs cr N) 29))
  clear hN hcr hl hok hs hsl
  generalize slotS N s = res at *
  go_enter Try.func10, Try.ntmps10
  go_wp2_with fail
  generalize w.alloc (.cells (netCells Ab An As Ar cb cn cs cr N) 29) = w0 at *
  refine (CC.out _ hB0.out).mono ?_
  rintro e w1 ⟨rfl, hb1⟩
  have HB0 := Lib.hid hb1
  have HB1 := Lib.hid (hB0.out.trans (hb1.mono (Nat.le_of_lt hsz0)))
  clear x0 x1 x2 x3 x4 x5 x6 x7 hb1 CC
  obtain ⟨x0, x1, x2, x3, x4, x5, x6, x7⟩ := HX.out.keep hsz0 HB0.out
  go_wp2_with fail
  refine (CS.out _ HB1.out).mono ?_
  rintro e w2 ⟨rfl, hb2⟩
  have HB2 := Lib.hid (HB1.out.trans (hb2.mono HB1.out.size))
  clear x0 x1 x2 x3 x4 x5 x6 x7 hb2 CS
  go_wp2
  go_ret2
  exact ⟨rfl, HB2.out⟩
set_option maxHeartbeats 4000000 in
theorem carriesOf_ok (Ab An As Ar B : Option Addr) (cb cn cs cr d : Nat) (N : NetD) (s : List Bool) (f : Int) (w : World) (hN : NetAt w Ab An As Ar N) (hl : NetLen N) (hcr : N.robots.length ≤ cr) (hok : NetOk N) (hs : Holds w B (s.map Bo)) (hsl : (s.length : Int) = cellsN N) (hd : s.length ≤ d) (hf0 : 0 ≤ f) (hf8 : f ≤ 8) :
    Calls Try.prog 12 #[.agg #[.slice Ab N.blocks.length cb, .slice An N.next.length cn, .slice As N.spurs.length cs, .slice Ar N.robots.length cr, Iv N.queue, Iv N.aging, Iv N.detours, Iv N.patience], .slice B s.length d, .int .i64 f] w fun e w' => e = .returned (.tuple #[.bool (carB N s f), .int .i64 0]) ∧ Below w.heap.size w w' := by
  have CC : Hid (∀ W, Below w.heap.size w W → Calls Try.prog 21 #[.agg #[.slice Ab N.blocks.length cb, .slice An N.next.length cn, .slice As N.spurs.length cs, .slice Ar N.robots.length cr, Iv N.queue, Iv N.aging, Iv N.detours, Iv N.patience], .slice B s.length d, .int .i64 f] W fun e w' => e = .returned (.int .i64 0) ∧ Below W.heap.size W w') := Lib.hid (fun W hW => by
    have h := refCheckF_c Ab An As Ar B cb cn cs cr d N s f W (hN.keep hW) hl hcr
    rwa [chkF_ok hok ⟨hsl, by omega, by omega⟩] at h)
  have CS := Lib.hid (fun W (hW : Below w.heap.size w W) => refCarries_c Ab An As Ar B cb cn cs cr d N s f W (hN.keep hW) hok (hs.keep hW) hsl hd)
  have hB0 := Lib.hid ((Below.refl w.heap.size w).alloc (Nat.le_refl _) (.cells (netCells Ab An As Ar cb cn cs cr N) 29))
  have HX := Lib.hid (boxAt_of (heap_alloc_new w (.cells (netCells Ab An As Ar cb cn cs cr N) 29)))
  have hsz0 : w.heap.size < (w.alloc (.cells (netCells Ab An As Ar cb cn cs cr N) 29)).heap.size := by simp
  obtain ⟨x0, x1, x2, x3, x4, x5, x6, x7⟩ := boxAt_of (heap_alloc_new w (.cells (netCells Ab An As Ar cb cn cs cr N) 29))
  clear hN hcr hl hok hs hsl hd
  generalize carB N s f = res at *
  go_enter Try.func12, Try.ntmps12
  go_wp2_with fail
  generalize w.alloc (.cells (netCells Ab An As Ar cb cn cs cr N) 29) = w0 at *
  refine (CC.out _ hB0.out).mono ?_
  rintro e w1 ⟨rfl, hb1⟩
  have HB0 := Lib.hid hb1
  have HB1 := Lib.hid (hB0.out.trans (hb1.mono (Nat.le_of_lt hsz0)))
  clear x0 x1 x2 x3 x4 x5 x6 x7 hb1 CC
  obtain ⟨x0, x1, x2, x3, x4, x5, x6, x7⟩ := HX.out.keep hsz0 HB0.out
  go_wp2_with fail
  refine (CS.out _ HB1.out).mono ?_
  rintro e w2 ⟨rfl, hb2⟩
  have HB2 := Lib.hid (HB1.out.trans (hb2.mono HB1.out.size))
  clear x0 x1 x2 x3 x4 x5 x6 x7 hb2 CS
  go_wp2
  go_ret2
  exact ⟨rfl, HB2.out⟩
end Go.Proofs.Ythfhplhdfnebhaa
namespace Go.Proofs.Ythfhplhdfnebhaa
open Go Go.RowKit Fl

set_option maxRecDepth 100000 in
set_option maxHeartbeats 4000000 in
theorem refWith_c (B : Option Addr) (d b : Nat) (s : List Bool) (w : World) (hs : Holds w B (s.map Bo)) (hb : b < s.length) (h1000 : s.length ≤ 1000) :
    Calls Try.prog 39 #[.slice B s.length d, .int .i64 b] w fun e w' => (∃ G c, e = .returned (.slice (some ⟨G, 0, none⟩) s.length c) ∧ s.length ≤ c ∧ Holds w' (some ⟨G, 0, none⟩) ((s.set b true).map Bo)) ∧ Below w.heap.size w w' := by
  obtain ⟨i0, hi, hz0, hz1, hz2⟩ := info_parts Try.infoBoolG
  obtain ⟨bS, oS, rfl, hbS, hcS⟩ := hs.at_ (by rw [List.length_map]; omega)
  have HC : Hid (∀ j u, (s.map Bo)[j]? = some u → w.cell? ((⟨bS, oS, none⟩ : Addr).add j) = some u) := Lib.hid (fun j u hu => by
    obtain ⟨hj, hv⟩ := List.getElem?_eq_some_iff.1 hu
    rw [← hv, show ((⟨bS, oS, none⟩ : Addr).add j) = ⟨bS, oS + j, none⟩ by simp [Addr.add]]
    exact hcS j hj)
  clear hs hcS
  go_enter Try.func39, Try.ntmps39
  go_wp2_with (at_builtin; refine wpList_append_own _ rfl _ _ 30 rfl w.heap.size 4 i0 (.bool false) 1 1 Try.underlying30 hi hz0 hz1 hz2 rfl (by decide) (.slice none 0 0) 0 [] rfl (World.ownsRow_nil _ _ _ _) ⟨bS, oS, none⟩ s.length d (s.map Bo) rfl ?qc1 ?qc2 ?qc3 ?qc4 ?qc5 ?qc6 ?_)
  case qc1 => simp
  case qc2 => exact HC.out
  case qc3 => intro u hu; obtain ⟨x, _, rfl⟩ := List.mem_map.1 hu; rfl
  case qc4 => unfold maxLen; omega
  case qc5 => omega
  case qc6 => simp
  intro v' w1 hown hgrow hnil
  have HO : Hid (w1.ownsRow w.heap.size 4 1 v' s.length (s.map Bo)) := Lib.hid (by simpa using hown)
  have HB := Lib.hid ((Below.refl w.heap.size w).grown hgrow (by simp) (by intro k hk; simp [Value.ownBlock] at hk))
  clear hown hgrow hnil HC
  obtain ⟨G, cap, hv, hG, hcp, gc, gf⟩ : ∃ G cap, v' = .slice (some ⟨G, 0, none⟩) s.length cap ∧ w.heap.size ≤ G ∧ s.length ≤ cap ∧ w1.cell? ⟨G, b, none⟩ = some (Bo s[b]) ∧ w1.frozen? ⟨G, b, none⟩ = false := by
    have h := HO.out
    obtain ⟨A, c, hA, hH⟩ := own_is h
    obtain ⟨_, h2⟩ := h
    rcases h2 with ⟨hv, h0⟩ | ⟨g, cap, cur, hv, hg, hh, hcap, _, _, _⟩
    · omega
    · refine ⟨g, cap, hv, hg, hcap, ?_, by simp [World.frozen?, hh]⟩
      rw [hv] at hA
      injection hA with e1 e2 e3
      subst e1
      obtain ⟨b', o', hA', _, hc⟩ := hH.at_ (by rw [List.length_map]; omega)
      injection hA' with hA'
      injection hA' with f1 f2
      have := hc b (by rw [List.length_map]; exact hb)
      rw [List.getElem_map, ← f1, ← f2, Nat.zero_add] at this
      exact this
  subst hv
  have HO2 := Lib.hid (own_marks_set HO.out b true)
  have HB2 := Lib.hid (below_put (i := b) (v := .bool true) HB.out hG)
  have HHo : Hid (Holds (w1.setCell ⟨G, b, none⟩ (.bool true)) (some ⟨G, 0, none⟩) ((s.set b true).map Bo)) := Lib.hid (by
    obtain ⟨A, c, hA, hH⟩ := own_is HO2.out
    injection hA with e1 e2 e3
    subst e1
    exact hH)
  clear HO HB HO2
  go_wp2
  go_ret
  exact ⟨⟨G, cap, rfl, hcp, HHo.out⟩, HB2.out⟩
set_option maxRecDepth 100000 in
set_option maxHeartbeats 8000000 in
theorem refAllowed_c (Ab An As Ar B : Option Addr) (cb cn cs cr d b : Nat) (N : NetD) (s : List Bool) (f : Int) (w : World) (hN : NetAt w Ab An As Ar N) (hok : NetOk N) (hs : Holds w B (s.map Bo)) (hsl : (s.length : Int) = cellsN N) (hb : b < N.blocks.length) :
    Calls Try.prog 25 #[.agg #[.slice Ab N.blocks.length cb, .slice An N.next.length cn, .slice As N.spurs.length cs, .slice Ar N.robots.length cr, Iv N.queue, Iv N.aging, Iv N.detours, Iv N.patience], .slice B s.length d, .int .i64 b, .int .i64 f] w fun e w' => e = .returned (.bool (mayB N s b f)) ∧ Below w.heap.size w w' := by
  obtain ⟨h1000, hcl⟩ := len_1000 hok hsl
  have hbs : b < s.length := by omega
  have CW := Lib.hid (fun W (hW : Below w.heap.size w W) => refWith_c B d b s W (hs.keep hW) hbs h1000)
  have CR : Hid (∀ W A c, Below w.heap.size w W → s.length ≤ c → Holds W A ((s.set b true).map Bo) → Calls Try.prog 24 #[.agg #[.slice Ab N.blocks.length cb, .slice An N.next.length cn, .slice As N.spurs.length cs, .slice Ar N.robots.length cr, Iv N.queue, Iv N.aging, Iv N.detours, Iv N.patience], .slice A s.length c, .int .i64 f] W fun e w' => e = .returned (.bool (carB N (s.set b true) f)) ∧ Below W.heap.size W w') := Lib.hid (fun W A c hW hc hH => by
    have h := refCarries_c Ab An As Ar A cb cn cs cr c N (s.set b true) f W (hN.keep hW) hok hH (by rw [List.length_set]; exact hsl) (by rw [List.length_set]; exact hc)
    rw [List.length_set] at h
    exact h)
  obtain ⟨bS, oS, rfl, hbS, hcS⟩ := hs.at_ (by rw [List.length_map]; omega)
  have HSb : Hid (∀ W, Below w.heap.size w W → W.cell? ⟨bS, oS + b, none⟩ = some (Bo s[b])) := Lib.hid (fun W hW => by
    have e := hcS b (by rw [List.length_map]; exact hbs)
    rw [List.getElem_map] at e
    exact (hW.cell (p := ⟨bS, oS + b, none⟩) hbS).trans e)
  have HMay : Hid (mayB N s b f = (carB N (s.set b true) f && !s[b])) := Lib.hid (by unfold mayB; rw [List.getD_eq_getElem?_getD, List.getElem?_eq_getElem hbs]; rfl)
  have hB0 := Lib.hid ((Below.refl w.heap.size w).alloc (Nat.le_refl _) (.cells (netCells Ab An As Ar cb cn cs cr N) 29))
  have HX := Lib.hid (boxAt_of (heap_alloc_new w (.cells (netCells Ab An As Ar cb cn cs cr N) 29)))
  have hsz0 : w.heap.size < (w.alloc (.cells (netCells Ab An As Ar cb cn cs cr N) 29)).heap.size := by simp
  obtain ⟨x0, x1, x2, x3, x4, x5, x6, x7⟩ := boxAt_of (heap_alloc_new w (.cells (netCells Ab An As Ar cb cn cs cr N) 29))
  clear hN hok hsl hs hcS
  rw [HMay.out]
  clear HMay
  generalize carB N (s.set b true) f = ca at *
  generalize s[b] = sb at *
  go_enter Try.func25, Try.ntmps25
  go_wp2_with fail
  generalize w.alloc (.cells (netCells Ab An As Ar cb cn cs cr N) 29) = w0 at *
  have HW := Lib.hid (fun W (hW : Below w0.heap.size w0 W) => HX.out.keep hsz0 hW)
  have HBW := Lib.hid (fun W (hW : Below w0.heap.size w0 W) => hB0.out.trans (hW.mono (Nat.le_of_lt hsz0)))
  have v1 := HSb.out _ hB0.out
  rcases sb with _ | _
  · have HF := Lib.hid (fun W (hW : Below w0.heap.size w0 W) => And.intro (HSb.out W (HBW.out W hW)) (box8 (HW.out W hW)))
    have CW2 := Lib.hid (fun W (hW : Below w0.heap.size w0 W) => (CW.out W (HBW.out W hW)).mono (fun e w' (h : (∃ G c, e = .returned (.slice (some ⟨G, 0, none⟩) s.length c) ∧ s.length ≤ c ∧ Holds w' (some ⟨G, 0, none⟩) ((s.set b true).map Bo)) ∧ Below W.heap.size W w') => (And.intro h.1 (hW.trans (h.2.mono hW.size)) : (∃ G c, e = .returned (.slice (some ⟨G, 0, none⟩) s.length c) ∧ s.length ≤ c ∧ Holds w' (some ⟨G, 0, none⟩) ((s.set b true).map Bo)) ∧ Below w0.heap.size w0 w')))
    have CR2 := Lib.hid (fun W A c (hW : Below w0.heap.size w0 W) (hc : s.length ≤ c) hH => (CR.out W A c (HBW.out W hW) hc hH).mono (fun e w' (h : e = .returned (.bool ca) ∧ Below W.heap.size W w') => (And.intro h.1 (hW.trans (h.2.mono hW.size)) : e = .returned (.bool ca) ∧ Below w0.heap.size w0 w')))
    clear CW CR HSb
    go_region_held3 (fun W => W.cell? ⟨bS, oS + b, none⟩ = some (Bo false) ∧ W.cell? ⟨w.heap.size, 0, none⟩ = some (.slice Ab N.blocks.length cb) ∧ W.cell? ⟨w.heap.size, 1, none⟩ = some (.slice An N.next.length cn) ∧ W.cell? ⟨w.heap.size, 2, none⟩ = some (.slice As N.spurs.length cs) ∧ W.cell? ⟨w.heap.size, 3, none⟩ = some (.slice Ar N.robots.length cr) ∧ W.cell? ⟨w.heap.size, 4, none⟩ = some (Iv N.queue) ∧ W.cell? ⟨w.heap.size, 5, none⟩ = some (Iv N.aging) ∧ W.cell? ⟨w.heap.size, 6, none⟩ = some (Iv N.detours) ∧ W.cell? ⟨w.heap.size, 7, none⟩ = some (Iv N.patience)) (first | exact HF.out _ (by repeat (first | assumption | (with_reducible exact Below.refl _ _) | (with_reducible refine Below.drew ?_) | (with_reducible refine below_push ?_ _)))) (first | (go_at_call 39; refine (CW2.out _ (by repeat (first | assumption | (with_reducible exact Below.refl _ _) | (with_reducible refine Below.drew ?_) | (with_reducible refine below_push ?_ _)))).mono ?_; rintro e w2 ⟨⟨G, c, rfl, hcc, hHo⟩, hbw2⟩; have HHo := Lib.hid (fun W (hW : Below w2.heap.size w2 W) => hHo.keep hW); clear hHo) | (go_at_call 24; refine (CR2.out _ _ _ (by repeat (first | assumption | (with_reducible exact Below.refl _ _) | (with_reducible refine Below.drew ?_) | (with_reducible refine below_push ?_ _))) hcc (HHo.out _ (by repeat (first | (with_reducible exact Below.refl _ _) | (with_reducible refine Below.drew ?_) | (with_reducible refine below_push ?_ _))))).mono ?_; rintro e w3 ⟨rfl, hbw3⟩))
    all_goals
      have HBf := Lib.hid (HBW.out _ hbw3)
      rcases ca with _ | _
      · go_wp2
        go_ret
        exact ⟨rfl, HBf.out⟩
      · go_wp2
        go_ret
        exact ⟨rfl, HBf.out⟩
  · clear CW CR HSb
    go_quiet (fail)
    go_wp2
    go_ret
    exact ⟨gr_bool (by simp), below_drewN hB0.out _⟩
set_option maxHeartbeats 4000000 in
theorem allowedOf_bad (Ab An As Ar B : Option Addr) (cb cn cs cr d : Nat) (N : NetD) (s : List Bool) (b f : Int) (w : World) (hN : NetAt w Ab An As Ar N) (hl : NetLen N) (hcr : N.robots.length ≤ cr) (hz : chkF N s f ≠ 0) :
    Calls Try.prog 14 #[.agg #[.slice Ab N.blocks.length cb, .slice An N.next.length cn, .slice As N.spurs.length cs, .slice Ar N.robots.length cr, Iv N.queue, Iv N.aging, Iv N.detours, Iv N.patience], .slice B s.length d, .int .i64 b, .int .i64 f] w fun e w' => e = .returned (.tuple #[.bool false, .int .i64 (chkF N s f)]) ∧ Below w.heap.size w w' := by
  have CC := Lib.hid (fun W (hW : Below w.heap.size w W) => refCheckF_c Ab An As Ar B cb cn cs cr d N s f W (hN.keep hW) hl hcr)
  have hzb : (chkF N s f != 0) = true := by rw [bne_iff_ne]; exact hz
  have hB0 := Lib.hid ((Below.refl w.heap.size w).alloc (Nat.le_refl _) (.cells (netCells Ab An As Ar cb cn cs cr N) 29))
  have HX := Lib.hid (boxAt_of (heap_alloc_new w (.cells (netCells Ab An As Ar cb cn cs cr N) 29)))
  have hsz0 : w.heap.size < (w.alloc (.cells (netCells Ab An As Ar cb cn cs cr N) 29)).heap.size := by simp
  obtain ⟨x0, x1, x2, x3, x4, x5, x6, x7⟩ := boxAt_of (heap_alloc_new w (.cells (netCells Ab An As Ar cb cn cs cr N) 29))
  clear hN hcr hl hz HX
  generalize chkF N s f = z at *
  go_enter Try.func14, Try.ntmps14
  go_wp2_with fail
  generalize w.alloc (.cells (netCells Ab An As Ar cb cn cs cr N) 29) = w0 at *
  refine (CC.out _ hB0.out).mono ?_
  rintro e w1 ⟨rfl, hb1⟩
  have HB1 := Lib.hid (hB0.out.trans (hb1.mono (Nat.le_of_lt hsz0)))
  clear x0 x1 x2 x3 x4 x5 x6 x7 hb1 CC
  go_wp2
  go_ret2
  exact ⟨rfl, HB1.out⟩
set_option maxHeartbeats 4000000 in
theorem allowedOf_block (Ab An As Ar B : Option Addr) (cb cn cs cr d : Nat) (N : NetD) (s : List Bool) (b f : Int) (w : World) (hN : NetAt w Ab An As Ar N) (hl : NetLen N) (hcr : N.robots.length ≤ cr) (hz : chkF N s f = 0) (hb : ¬ (0 ≤ b ∧ b < N.blocks.length)) :
    Calls Try.prog 14 #[.agg #[.slice Ab N.blocks.length cb, .slice An N.next.length cn, .slice As N.spurs.length cs, .slice Ar N.robots.length cr, Iv N.queue, Iv N.aging, Iv N.detours, Iv N.patience], .slice B s.length d, .int .i64 b, .int .i64 f] w fun e w' => e = .returned (.tuple #[.bool false, .int .i64 19]) ∧ Below w.heap.size w w' := by
  have CC := Lib.hid (fun W (hW : Below w.heap.size w W) => refCheckF_c Ab An As Ar B cb cn cs cr d N s f W (hN.keep hW) hl hcr)
  rw [hz] at CC
  have hcs : b < 0 ∨ (¬ b < 0 ∧ (N.blocks.length : Int) ≤ b) := by omega
  have hB0 := Lib.hid ((Below.refl w.heap.size w).alloc (Nat.le_refl _) (.cells (netCells Ab An As Ar cb cn cs cr N) 29))
  have HX := Lib.hid (boxAt_of (heap_alloc_new w (.cells (netCells Ab An As Ar cb cn cs cr N) 29)))
  have hsz0 : w.heap.size < (w.alloc (.cells (netCells Ab An As Ar cb cn cs cr N) 29)).heap.size := by simp
  obtain ⟨x0, x1, x2, x3, x4, x5, x6, x7⟩ := boxAt_of (heap_alloc_new w (.cells (netCells Ab An As Ar cb cn cs cr N) 29))
  clear hN hcr hl hz hb
  rcases hcs with h1 | ⟨h1, h2⟩
  all_goals
    go_enter Try.func14, Try.ntmps14
    go_wp2_with fail
    generalize w.alloc (.cells (netCells Ab An As Ar cb cn cs cr N) 29) = w0 at *
    refine (CC.out _ hB0.out).mono ?_
    rintro e w1 ⟨rfl, hb1⟩
    have HB0 := Lib.hid hb1
    have HB1 := Lib.hid (hB0.out.trans (hb1.mono (Nat.le_of_lt hsz0)))
    clear x0 x1 x2 x3 x4 x5 x6 x7 hb1 CC
    obtain ⟨x0, _, _, _, _, _, _, _⟩ := HX.out.keep hsz0 HB0.out
    go_wp2
    go_ret2
    exact ⟨rfl, HB1.out⟩
set_option maxHeartbeats 4000000 in
theorem allowedOf_ok (Ab An As Ar B : Option Addr) (cb cn cs cr d b : Nat) (N : NetD) (s : List Bool) (f : Int) (w : World) (hN : NetAt w Ab An As Ar N) (hl : NetLen N) (hcr : N.robots.length ≤ cr) (hs : Holds w B (s.map Bo)) (hz : chkF N s f = 0) (hb : b < N.blocks.length) :
    Calls Try.prog 14 #[.agg #[.slice Ab N.blocks.length cb, .slice An N.next.length cn, .slice As N.spurs.length cs, .slice Ar N.robots.length cr, Iv N.queue, Iv N.aging, Iv N.detours, Iv N.patience], .slice B s.length d, .int .i64 b, .int .i64 f] w fun e w' => e = .returned (.tuple #[.bool (mayB N s b f), .int .i64 0]) ∧ Below w.heap.size w w' := by
  obtain ⟨hok, hsl, _, _⟩ := chkF_zero hz
  have CC := Lib.hid (fun W (hW : Below w.heap.size w W) => refCheckF_c Ab An As Ar B cb cn cs cr d N s f W (hN.keep hW) hl hcr)
  rw [hz] at CC
  have CS := Lib.hid (fun W (hW : Below w.heap.size w W) => refAllowed_c Ab An As Ar B cb cn cs cr d b N s f W (hN.keep hW) hok (hs.keep hW) hsl hb)
  have h1 : ¬ (b : Int) < 0 := by omega
  have h2 : ¬ (N.blocks.length : Int) ≤ (b : Int) := by omega
  have hB0 := Lib.hid ((Below.refl w.heap.size w).alloc (Nat.le_refl _) (.cells (netCells Ab An As Ar cb cn cs cr N) 29))
  have HX := Lib.hid (boxAt_of (heap_alloc_new w (.cells (netCells Ab An As Ar cb cn cs cr N) 29)))
  have hsz0 : w.heap.size < (w.alloc (.cells (netCells Ab An As Ar cb cn cs cr N) 29)).heap.size := by simp
  obtain ⟨x0, x1, x2, x3, x4, x5, x6, x7⟩ := boxAt_of (heap_alloc_new w (.cells (netCells Ab An As Ar cb cn cs cr N) 29))
  clear hN hcr hl hz hb hok hsl hs
  generalize mayB N s b f = res at *
  go_enter Try.func14, Try.ntmps14
  go_wp2_with fail
  generalize w.alloc (.cells (netCells Ab An As Ar cb cn cs cr N) 29) = w0 at *
  refine (CC.out _ hB0.out).mono ?_
  rintro e w1 ⟨rfl, hb1⟩
  have HB0 := Lib.hid hb1
  have HB1 := Lib.hid (hB0.out.trans (hb1.mono (Nat.le_of_lt hsz0)))
  clear x0 x1 x2 x3 x4 x5 x6 x7 hb1 CC
  obtain ⟨x0, x1, x2, x3, x4, x5, x6, x7⟩ := HX.out.keep hsz0 HB0.out
  go_wp2_with fail
  refine (CS.out _ HB1.out).mono ?_
  rintro e w2 ⟨rfl, hb2⟩
  have HB2 := Lib.hid (HB1.out.trans (hb2.mono HB1.out.size))
  clear x0 x1 x2 x3 x4 x5 x6 x7 hb2 CS
  go_wp2
  go_ret2
  exact ⟨rfl, HB2.out⟩
end Go.Proofs.Ythfhplhdfnebhaa
namespace Go.Proofs.Ythfhplhdfnebhaa
open Go Go.RowKit Fl

theorem chkF_of {N : NetD} {s : List Bool} {f : Int} (h : chkN N s ≠ 0) : chkF N s f = chkN N s := by
  by_cases h1 : NetOk N
  · by_cases h2 : (s.length : Int) = cellsN N
    · exact absurd (chkN_ok h1 h2) h
    · rw [chkN_len h1 h2, chkF_out h1 (fun h3 => h2 h3.1)]
  · rw [chkN_no h1, chkF_no h1]
theorem chkF_fleet {N : NetD} {s : List Bool} {f : Int} (h : chkN N s = 0) (hf : ¬ (0 ≤ f ∧ f ≤ 8)) : chkF N s f = 19 :=
  chkF_out (chkN_zero h).1 (fun h3 => hf h3.2)
/-- Both calls answer the same. -/
theorem slots_pair (Ab An As Ar B : Option Addr) (cb cn cs cr d : Nat) (N : NetD) (s : List Bool) (w : World) (hN : NetAt w Ab An As Ar N) (hl : NetLen N) (hcr : N.robots.length ≤ cr) (hs : Holds w B (s.map Bo)) (hd : s.length ≤ d) :
    ∃ (z : Int) (er : Int), (∀ W, Below w.heap.size w W → Calls Try.prog 9 #[.agg #[.slice Ab N.blocks.length cb, .slice An N.next.length cn, .slice As N.spurs.length cs, .slice Ar N.robots.length cr, Iv N.queue, Iv N.aging, Iv N.detours, Iv N.patience], .slice B s.length d] W fun e w' => e = .returned (.tuple #[.int .i64 z, .int .i64 er]) ∧ Below W.heap.size W w') ∧ (∀ W, Below w.heap.size w W → Calls Try.prog 10 #[.agg #[.slice Ab N.blocks.length cb, .slice An N.next.length cn, .slice As N.spurs.length cs, .slice Ar N.robots.length cr, Iv N.queue, Iv N.aging, Iv N.detours, Iv N.patience], .slice B s.length d] W fun e w' => e = .returned (.tuple #[.int .i64 z, .int .i64 er]) ∧ Below W.heap.size W w') := by
  by_cases h0 : chkN N s = 0
  · obtain ⟨hok, hsl⟩ := chkN_zero h0
    exact ⟨slotS N s, 0, fun W hW => devSlots_c Ab An As Ar B cb cn cs cr d N s W (hN.keep hW) hok hcr (hs.keep hW) hsl hd, fun W hW => slotsOf_ok Ab An As Ar B cb cn cs cr d N s W (hN.keep hW) hl hcr hok (hs.keep hW) hsl⟩
  · refine ⟨0, chkN N s, fun W hW => slots_bad Ab An As Ar B cb cn cs cr d N s W (hN.keep hW) hl hcr h0, fun W hW => ?_⟩
    have h := slotsOf_bad Ab An As Ar B cb cn cs cr d N s W (hN.keep hW) hl hcr (by rw [chkF_of h0]; exact h0)
    rwa [chkF_of h0] at h
/-- Both calls answer the same. -/
theorem carries_pair (hM : DevMutual) (Ab An As Ar B : Option Addr) (cb cn cs cr d : Nat) (N : NetD) (s : List Bool) (f : Int) (w : World) (hN : NetAt w Ab An As Ar N) (hl : NetLen N) (hcr : N.robots.length ≤ cr) (hs : Holds w B (s.map Bo)) (hd : s.length ≤ d) :
    ∃ (z : Bool) (er : Int), (∀ W, Below w.heap.size w W → Calls Try.prog 11 #[.agg #[.slice Ab N.blocks.length cb, .slice An N.next.length cn, .slice As N.spurs.length cs, .slice Ar N.robots.length cr, Iv N.queue, Iv N.aging, Iv N.detours, Iv N.patience], .slice B s.length d, .int .i64 f] W fun e w' => e = .returned (.tuple #[.bool z, .int .i64 er]) ∧ Below W.heap.size W w') ∧ (∀ W, Below w.heap.size w W → Calls Try.prog 12 #[.agg #[.slice Ab N.blocks.length cb, .slice An N.next.length cn, .slice As N.spurs.length cs, .slice Ar N.robots.length cr, Iv N.queue, Iv N.aging, Iv N.detours, Iv N.patience], .slice B s.length d, .int .i64 f] W fun e w' => e = .returned (.tuple #[.bool z, .int .i64 er]) ∧ Below W.heap.size W w') := by
  by_cases h0 : chkN N s = 0
  · obtain ⟨hok, hsl⟩ := chkN_zero h0
    by_cases hf : 0 ≤ f ∧ f ≤ 8
    · exact ⟨carB N s f, 0, fun W hW => carries_c hM Ab An As Ar B cb cn cs cr d N s f W (hN.keep hW) hok hcr (hs.keep hW) hsl hd hf.1 hf.2, fun W hW => carriesOf_ok Ab An As Ar B cb cn cs cr d N s f W (hN.keep hW) hl hcr hok (hs.keep hW) hsl hd hf.1 hf.2⟩
    · refine ⟨false, 19, fun W hW => carries_fleet Ab An As Ar B cb cn cs cr d N s f W (hN.keep hW) hok hcr (hs.keep hW) hsl hd hf, fun W hW => ?_⟩
      have h := carriesOf_bad Ab An As Ar B cb cn cs cr d N s f W (hN.keep hW) hl hcr (by rw [chkF_fleet h0 hf]; omega)
      rwa [chkF_fleet h0 hf] at h
  · refine ⟨false, chkN N s, fun W hW => carries_bad Ab An As Ar B cb cn cs cr d N s f W (hN.keep hW) hl hcr h0, fun W hW => ?_⟩
    have h := carriesOf_bad Ab An As Ar B cb cn cs cr d N s f W (hN.keep hW) hl hcr (by rw [chkF_of h0]; exact h0)
    rwa [chkF_of h0] at h
/-- Both calls answer the same. -/
theorem allowed_pair (hM : DevMutual) (Ab An As Ar B : Option Addr) (cb cn cs cr d : Nat) (N : NetD) (s : List Bool) (b f : Int) (w : World) (hN : NetAt w Ab An As Ar N) (hl : NetLen N) (hcr : N.robots.length ≤ cr) (hs : Holds w B (s.map Bo)) :
    ∃ (z : Bool) (er : Int), (∀ W, Below w.heap.size w W → Calls Try.prog 13 #[.agg #[.slice Ab N.blocks.length cb, .slice An N.next.length cn, .slice As N.spurs.length cs, .slice Ar N.robots.length cr, Iv N.queue, Iv N.aging, Iv N.detours, Iv N.patience], .slice B s.length d, .int .i64 b, .int .i64 f] W fun e w' => e = .returned (.tuple #[.bool z, .int .i64 er]) ∧ Below W.heap.size W w') ∧ (∀ W, Below w.heap.size w W → Calls Try.prog 14 #[.agg #[.slice Ab N.blocks.length cb, .slice An N.next.length cn, .slice As N.spurs.length cs, .slice Ar N.robots.length cr, Iv N.queue, Iv N.aging, Iv N.detours, Iv N.patience], .slice B s.length d, .int .i64 b, .int .i64 f] W fun e w' => e = .returned (.tuple #[.bool z, .int .i64 er]) ∧ Below W.heap.size W w') := by
  by_cases h0 : chkN N s = 0
  · obtain ⟨hok, hsl⟩ := chkN_zero h0
    by_cases hb : 0 ≤ b ∧ b < N.blocks.length
    · obtain ⟨b, rfl⟩ := Int.eq_ofNat_of_zero_le hb.1
      have hbn : b < N.blocks.length := by omega
      by_cases hf : 0 ≤ f ∧ f ≤ 8
      · exact ⟨mayB N s b f, 0, fun W hW => allowed_c hM Ab An As Ar B cb cn cs cr d b N s f W (hN.keep hW) hok hcr (hs.keep hW) hsl hbn hf.1 hf.2, fun W hW => allowedOf_ok Ab An As Ar B cb cn cs cr d b N s f W (hN.keep hW) hl hcr (hs.keep hW) (chkF_ok hok ⟨hsl, hf⟩) hbn⟩
      · refine ⟨false, 19, fun W hW => ?_, fun W hW => ?_⟩
        · have h := allowedG_c Ab An As Ar B cb cn cs cr d b N s f W (hN.keep hW) hok hcr (hs.keep hW) hsl hbn false 19 (fun W2 G hW2 hG => by
            have h := carries_fleet Ab An As Ar (some ⟨G, 0, none⟩) cb cn cs cr s.length N (s.set b true) f W2 ((hN.keep hW).keep hW2) hok hcr hG (by rw [List.length_set]; exact hsl) (by simp) hf
            rw [List.length_set] at h
            exact h)
          exact h
        · have h := allowedOf_bad Ab An As Ar B cb cn cs cr d N s b f W (hN.keep hW) hl hcr (by rw [chkF_fleet h0 hf]; omega)
          rwa [chkF_fleet h0 hf] at h
    · refine ⟨false, 19, fun W hW => allowed_block Ab An As Ar B cb cn cs cr d N s b f W (hN.keep hW) hok hcr hsl hb, fun W hW => ?_⟩
      by_cases hf : 0 ≤ f ∧ f ≤ 8
      · exact allowedOf_block Ab An As Ar B cb cn cs cr d N s b f W (hN.keep hW) hl hcr (chkF_ok hok ⟨hsl, hf⟩) hb
      · have h := allowedOf_bad Ab An As Ar B cb cn cs cr d N s b f W (hN.keep hW) hl hcr (by rw [chkF_fleet h0 hf]; omega)
        rwa [chkF_fleet h0 hf] at h
  · refine ⟨false, chkN N s, fun W hW => allowed_bad Ab An As Ar B cb cn cs cr d N s b f W (hN.keep hW) hl hcr h0, fun W hW => ?_⟩
    have h := allowedOf_bad Ab An As Ar B cb cn cs cr d N s b f W (hN.keep hW) hl hcr (by rw [chkF_of h0]; exact h0)
    rwa [chkF_of h0] at h
end Go.Proofs.Ythfhplhdfnebhaa
