/- Contracts of closure's Carries and Allowed, for valid networks. -/
import Derived.Test.YtcpoojlhfebcmaaMjD
import Derived.Test.YtcpoojlhfebcmaaMjA
import Derived.Deep.RegionHeld3
import Derived.Laws.CopyOwn
namespace Go.Proofs.Ytcpoojlhfebcmaa
open Go Go.RowKit Fl

/-- The open blocks are mutually reachable. -/
noncomputable def allN (N : NetD) (s : List Bool) : Bool := mutB N.next (s.take N.blocks.length)
def slotS (N : NetD) (s : List Bool) : Int := openSum s N.spurs N.spurs.length
/-- What Carries returns. -/
noncomputable def carB (N : NetD) (s : List Bool) (f : Int) : Bool := allN N s && decide (f ≤ slotS N s)
theorem Holds.front {w : World} {A : Option Addr} {xs : List Value} (h : Holds w A xs) (n : Nat) : Holds w A (xs.take n) := by
  rcases h with h | ⟨b, o, hA, hb, hc⟩
  · left; subst h; simp
  · right
    refine ⟨b, o, hA, hb, fun j hj => ?_⟩
    rw [List.length_take] at hj
    rw [hc j (by omega), List.getElem_take]
theorem mutN_c (hM : DevMutual) {Ab An As Ar B : Option Addr} {cn d : Nat} {N : NetD} {s : List Bool} {W : World} (hN : NetAt W Ab An As Ar N) (hok : NetOk N) (hs : Holds W B (s.map Bo)) (hl : N.blocks.length ≤ s.length) :
    Calls Try.prog 19 #[.slice An N.next.length cn, .slice B N.blocks.length d] W fun e w' => e = .returned (.tuple #[.bool (allN N s), .int .i64 0]) ∧ Below W.heap.size W w' := by
  have h1 : (s.take N.blocks.length).length = N.blocks.length := by rw [List.length_take]; omega
  have h2 := hs.front N.blocks.length
  rw [← List.map_take] at h2
  have h := mutual_ok hM (c := cn) (d := d) (n := N.blocks.length) hN.next h2 hok.graph hok.lanes h1
  unfold allN
  rw [← hok.lanes] at h ⊢
  exact h
set_option maxRecDepth 100000 in
set_option maxHeartbeats 8000000 in
theorem carries_c (hM : DevMutual) (Ab An As Ar B : Option Addr) (cb cn cs cr d : Nat) (N : NetD) (s : List Bool) (f : Int) (w : World) (hN : NetAt w Ab An As Ar N) (hok : NetOk N) (hcr : N.robots.length ≤ cr) (hs : Holds w B (s.map Bo)) (hsl : (s.length : Int) = cellsN N) (hd : s.length ≤ d) (hf0 : 0 ≤ f) (hf8 : f ≤ 8) :
    Calls Try.prog 14 #[.agg #[.slice Ab N.blocks.length cb, .slice An N.next.length cn, .slice As N.spurs.length cs, .slice Ar N.robots.length cr, Iv N.queue, Iv N.aging, Iv N.detours, Iv N.patience], .slice B s.length d, .int .i64 f] w fun e w' => e = .returned (.tuple #[.bool (carB N s f), .int .i64 0]) ∧ Below w.heap.size w w' := by
  have hcl : N.blocks.length ≤ s.length := by
    have h3 := slotsK_bounds (l := N.spurs) (fun s hs => by have := (hok.spurOk s hs).slots; omega) N.spurs.length (Nat.le_refl _)
    have h5 : cellsN N = N.blocks.length + slotsK N.spurs N.spurs.length := rfl
    omega
  have hbd : (N.blocks.length : Int) ≤ (d : Int) := by omega
  have CS := Lib.hid (fun W (hW : Below w.heap.size w W) => devSlots_c Ab An As Ar B cb cn cs cr d N s W (hN.keep hW) hok hcr (hs.keep hW) hsl hd)
  have CM := Lib.hid (fun W (hW : Below w.heap.size w W) => mutN_c hM (cn := cn) (d := d) (hN.keep hW) hok (hs.keep hW) hcl)
  have HCar : Hid (carB N s f = (allN N s && decide (f ≤ slotS N s))) := Lib.hid rfl
  have HSl : Hid (openSum s N.spurs N.spurs.length = slotS N s) := Lib.hid rfl
  rw [HSl.out] at CS
  have hB0 := Lib.hid ((Below.refl w.heap.size w).alloc (Nat.le_refl _) (.cells (netCells Ab An As Ar cb cn cs cr N) 29))
  have HX := Lib.hid (boxAt_of (heap_alloc_new w (.cells (netCells Ab An As Ar cb cn cs cr N) 29)))
  have hsz0 : w.heap.size < (w.alloc (.cells (netCells Ab An As Ar cb cn cs cr N) 29)).heap.size := by simp
  obtain ⟨x0, x1, x2, x3, x4, x5, x6, x7⟩ := boxAt_of (heap_alloc_new w (.cells (netCells Ab An As Ar cb cn cs cr N) 29))
  clear hN hok hsl hs hcr hcl
  rw [HCar.out]
  clear HCar HSl
  generalize slotS N s = sl at *
  generalize allN N s = al at *
  go_enter Try.func14, Try.ntmps14
  go_wp2_with fail
  generalize w.alloc (.cells (netCells Ab An As Ar cb cn cs cr N) 29) = w0 at *
  refine (CS.out _ hB0.out).mono ?_
  rintro e w1 ⟨rfl, hb1⟩
  have HB1 : Hid (Below w0.heap.size w0 w1) := Lib.hid hb1
  have HW := Lib.hid (fun W (hW : Below w1.heap.size w1 W) => HX.out.keep hsz0 (HB1.out.trans (hW.mono HB1.out.size)))
  have HBW := Lib.hid (fun W (hW : Below w1.heap.size w1 W) => hB0.out.trans ((HB1.out.trans (hW.mono HB1.out.size)).mono (Nat.le_of_lt hsz0)))
  clear x0 x1 x2 x3 x4 x5 x6 x7 hb1 CS
  obtain ⟨x0, x1, _, _, _, _, _, _⟩ := HW.out _ (Below.refl _ _)
  go_wp2_with fail
  go_region_held3 (fun W => W.cell? ⟨w.heap.size, 0, none⟩ = some (.slice Ab N.blocks.length cb) ∧ W.cell? ⟨w.heap.size, 1, none⟩ = some (.slice An N.next.length cn)) (first | exact ⟨(HW.out _ ((Below.refl _ _).drew)).c0, (HW.out _ ((Below.refl _ _).drew)).c1⟩ | exact ⟨(HW.out _ HB2.out).c0, (HW.out _ HB2.out).c1⟩) (first | (go_at_call 19; refine (CM.out _ (HBW.out _ ((Below.refl _ _).drew))).mono ?_; rintro e w2 ⟨rfl, hb2⟩; have HB2 : Hid (Below w1.heap.size w1 w2) := Lib.hid (((Below.refl w1.heap.size w1).drew).trans hb2); clear hb2))
  all_goals
    have HBf := Lib.hid (HBW.out _ HB2.out)
    clear HW HBW CM
    rcases al with _ | _
    · go_wp2
      go_ret2
      exact ⟨rfl, HBf.out⟩
    · go_wp2
      go_ret2
      exact ⟨by first | rfl | simp, HBf.out⟩
/-- What Allowed returns of block b. -/
noncomputable def mayB (N : NetD) (s : List Bool) (b : Nat) (f : Int) : Bool := carB N (s.set b true) f && !(s.getD b false)
theorem splice_all (xs ys : List Value) (h : xs.length = ys.length) : splice xs 0 ys = ys := by
  unfold splice
  simp [h]
set_option maxRecDepth 100000 in
set_option maxHeartbeats 8000000 in
theorem allowed_c (hM : DevMutual) (Ab An As Ar B : Option Addr) (cb cn cs cr d b : Nat) (N : NetD) (s : List Bool) (f : Int) (w : World) (hN : NetAt w Ab An As Ar N) (hok : NetOk N) (hcr : N.robots.length ≤ cr) (hs : Holds w B (s.map Bo)) (hsl : (s.length : Int) = cellsN N) (hb : b < N.blocks.length) (hf0 : 0 ≤ f) (hf8 : f ≤ 8) :
    Calls Try.prog 16 #[.agg #[.slice Ab N.blocks.length cb, .slice An N.next.length cn, .slice As N.spurs.length cs, .slice Ar N.robots.length cr, Iv N.queue, Iv N.aging, Iv N.detours, Iv N.patience], .slice B s.length d, .int .i64 b, .int .i64 f] w fun e w' => e = .returned (.tuple #[.bool (mayB N s b f), .int .i64 0]) ∧ Below w.heap.size w w' := by
  have hcl : N.blocks.length ≤ s.length := by
    have h3 := slotsK_bounds (l := N.spurs) (fun s hs => by have := (hok.spurOk s hs).slots; omega) N.spurs.length (Nat.le_refl _)
    have h5 : cellsN N = N.blocks.length + slotsK N.spurs N.spurs.length := rfl
    omega
  have hc48 := cellsN_le hok.few'
  have h48 : s.length ≤ 48 := by omega
  have hbs : b < s.length := by omega
  have CK := Lib.hid (fun W (hW : Below w.heap.size w W) => check_c Ab An As Ar B cb cn cs cr d N s W (hN.keep hW) hok hcr hsl)
  have CC : Hid (∀ W G, Below w.heap.size w W → W.heap[G]? = some (.cells (((s.set b true).map Bo).toArray) 4 (0, 0)) → Calls Try.prog 14 #[.agg #[.slice Ab N.blocks.length cb, .slice An N.next.length cn, .slice As N.spurs.length cs, .slice Ar N.robots.length cr, Iv N.queue, Iv N.aging, Iv N.detours, Iv N.patience], .slice (some ⟨G, 0, none⟩) s.length s.length, .int .i64 f] W fun e w' => e = .returned (.tuple #[.bool (carB N (s.set b true) f), .int .i64 0]) ∧ Below W.heap.size W w') := Lib.hid (fun W G hW hG => by
    have h := carries_c hM Ab An As Ar (some ⟨G, 0, none⟩) cb cn cs cr s.length N (s.set b true) f W (hN.keep hW) hok hcr (holds_row hG rfl) (by rw [List.length_set]; exact hsl) (by simp) hf0 hf8
    rw [List.length_set] at h
    exact h)
  obtain ⟨bS, oS, rfl, hbS, hcS⟩ := hs.at_ (by rw [List.length_map]; omega)
  have HSh : Hid (∀ W, Below w.heap.size w W → ∀ j (h : j < s.length), W.cell? ⟨bS, oS + j, none⟩ = some (Bo s[j])) := Lib.hid (fun W hW j h => by
    have e := hcS j (by rw [List.length_map]; exact h)
    rw [List.getElem_map] at e
    exact (hW.cell (p := ⟨bS, oS + j, none⟩) hbS).trans e)
  have HMay : Hid (mayB N s b f = (carB N (s.set b true) f && !s[b])) := Lib.hid (by unfold mayB; rw [List.getD_eq_getElem?_getD, List.getElem?_eq_getElem hbs]; rfl)
  have hB0 := Lib.hid ((Below.refl w.heap.size w).alloc (Nat.le_refl _) (.cells (netCells Ab An As Ar cb cn cs cr N) 29))
  have HX := Lib.hid (boxAt_of (heap_alloc_new w (.cells (netCells Ab An As Ar cb cn cs cr N) 29)))
  have hsz0 : w.heap.size < (w.alloc (.cells (netCells Ab An As Ar cb cn cs cr N) 29)).heap.size := by simp
  obtain ⟨x0, x1, x2, x3, x4, x5, x6, x7⟩ := boxAt_of (heap_alloc_new w (.cells (netCells Ab An As Ar cb cn cs cr N) 29))
  clear hN hok hsl hs hcr hcl hcS hc48
  rw [HMay.out]
  clear HMay
  generalize carB N (s.set b true) f = ca at *
  have mk := make_bools s.length (by omega)
  go_enter Try.func16, Try.ntmps16
  go_wp2_with fail
  generalize w.alloc (.cells (netCells Ab An As Ar cb cn cs cr N) 29) = w0 at *
  refine (CK.out _ hB0.out).mono ?_
  rintro e w1 ⟨rfl, hb1⟩
  have HB1 : Hid (Below w0.heap.size w0 w1) := Lib.hid hb1
  have HBw1 := Lib.hid (hB0.out.trans (hb1.mono (Nat.le_of_lt hsz0)))
  clear x0 x1 x2 x3 x4 x5 x6 x7 hb1 CK
  obtain ⟨x0, _, _, _, _, _, _, _⟩ := HX.out.keep hsz0 HB1.out
  have HBa : Hid (∀ ob, Below w.heap.size w (w1.alloc ob)) := Lib.hid (fun ob => HBw1.out.alloc HBw1.out.size ob)
  have HZ1 : Hid ((w1.alloc (.cells (madeCells #[.bool false] s.length) 4)).heap[w1.heap.size]? = some (.cells ((opens s.length).map Bo).toArray 4 (0, 0))) := Lib.hid (by
    rw [heap_alloc_new, ← made_bools])
  have hmin : (s.map Bo).length = Nat.min s.length s.length := by simp
  have hfit : 0 + (s.map Bo).length ≤ ((opens s.length).map Bo).length := by simp [opens]
  have hone : ∀ v ∈ s.map Bo, v.oneCell' = true := fun v hv => by
    obtain ⟨x, _, rfl⟩ := List.mem_map.1 hv
    rfl
  have hlo : ((opens s.length).map Bo).length = (s.map Bo).length := by simp [opens]
  have HOne := Lib.hid hone
  have HLo := Lib.hid hlo
  clear hone hlo
  have hbw2 : Below w0.heap.size w0 (w1.alloc (.cells (madeCells #[.bool false] s.length) 4)) := HB1.out.alloc HB1.out.size _
  have HB2 := Lib.hid hbw2
  have hs2 : w1.heap.size + 1 = (w1.alloc (.cells (madeCells #[.bool false] s.length) 4)).heap.size := by simp
  have HBw2 := Lib.hid (HBa.out (.cells (madeCells #[.bool false] s.length) 4))
  have hz1 : w0.heap.size ≤ w1.heap.size := HB1.out.size
  clear hbw2
  go_upto_region 7 with fail
  clear mk
  generalize w1.alloc (.cells (madeCells #[.bool false] s.length) 4) = w2 at *
  obtain ⟨G, hG⟩ : ∃ G, G = w1.heap.size := ⟨_, rfl⟩
  rw [← hG] at HZ1 hs2 hz1 ⊢
  clear hG
  clear HB1 HBw1 HBa x0
  have hcs : 0 < (s.map Bo).length → (some (⟨G, 0, none⟩ : Addr)) = some ⟨G, 0, none⟩ ∧ ∃ ad : Addr, some (⟨bS, oS, none⟩ : Addr) = some ad ∧ ∀ j v, (s.map Bo)[j]? = some v → w2.cell? (ad.add j) = some v := fun _ => by
    refine ⟨rfl, _, rfl, fun j v hv => ?_⟩
    obtain ⟨hj, hv⟩ := List.getElem?_eq_some_iff.1 hv
    rw [List.length_map] at hj
    rw [List.getElem_map] at hv
    rw [← hv, show ((⟨bS, oS, none⟩ : Addr).add j) = ⟨bS, oS + j, none⟩ by simp [Addr.add]]
    exact HSh.out _ HBw2.out j hj
  have HCs := Lib.hid hcs
  clear hcs
  go_wp2_with (refine wpList_copy_splice rfl _ _ _ _ (by rfl) 4 (by kernel_rfl) (by kernel_rfl) (some ⟨G, 0, none⟩) (some ⟨bS, oS, none⟩) s.length s.length s.length d (by rfl) (by rfl) G 0 ((opens s.length).map Bo) 4 HZ1.out (s.map Bo) hmin HCs.out hfit HOne.out G w2 (Below.refl _ _) (Nat.le_refl _) ?_)
  intro w3 hg3 hb3
  have hG3 : w3.heap[G]? = some (.cells ((s.map Bo).toArray) 4 (0, 0)) := by
    have h := hg3.out
    rw [splice_all _ _ HLo.out] at h
    exact h
  have HG4 : Hid ((w3.setCell ⟨G, b, none⟩ (.bool true)).heap[G]? = some (.cells (((s.set b true).map Bo).toArray) 4 (0, 0))) := Lib.hid (by
    rw [set1_at hG3, List.setIfInBounds_toArray, List.map_set])
  have g1 : w3.cell? ⟨G, b, none⟩ = some (Bo s[b]) := by
    rw [cell_of_row _ _ b _ _ _ hG3]
    simp [hbs]
  have g2 : w3.frozen? ⟨G, b, none⟩ = false := by simp [World.frozen?, hG3]
  have HB3 : Hid (Below w0.heap.size w0 w3) := Lib.hid (HB2.out.trans (hb3.mono hz1))
  have HB4 : Hid (Below w0.heap.size w0 (w3.setCell ⟨G, b, none⟩ (.bool true))) := Lib.hid (below_put HB3.out hz1)
  have HBw4 := Lib.hid (hB0.out.trans (HB4.out.mono (Nat.le_of_lt hsz0)))
  obtain ⟨x0, x1, x2, x3, x4, x5, x6, x7⟩ := HX.out.keep hsz0 HB3.out
  have hn1 : G ≠ w.heap.size := by omega
  have hn2 : w.heap.size ≠ G := by omega
  have CC4 := Lib.hid (CC.out _ G HBw4.out HG4.out)
  clear hG3 hg3 hb3 HB3 HB2 HCs HZ1 HOne HLo hmin hfit CC HG4 hs2
  go_wp2_with fail
  refine CC4.out.mono ?_
  rintro e w5 ⟨rfl, hb5⟩
  have HB5 := Lib.hid (HBw4.out.trans (hb5.mono HBw4.out.size))
  clear hb5 HB4 HBw4 CC4 x0 x1 x2 x3 x4 x5 x6 x7
  have v1 := HSh.out _ HB5.out b hbs
  clear HSh g1 g2
  rcases ca with _ | _
  · go_wp2
    go_ret2
    exact ⟨rfl, HB5.out⟩
  · go_wp2
    go_ret2
    exact ⟨by first | rfl | simp, HB5.out⟩
end Go.Proofs.Ytcpoojlhfebcmaa
