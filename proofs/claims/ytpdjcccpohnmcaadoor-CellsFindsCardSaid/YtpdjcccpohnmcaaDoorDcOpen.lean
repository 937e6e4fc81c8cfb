/- Contract of cells.Open, for valid networks. -/
import Derived.Test.YtpdjcccpohnmcaaDoorMjA
import Derived.Test.YtpdjcccpohnmcaaDoorNtFew
namespace Go.Proofs.YtpdjcccpohnmcaaDoor
open Go Go.RowKit Fl

set_option maxRecDepth 100000 in
set_option maxHeartbeats 4000000 in
theorem indexB_c (A : Option Addr) (c : Nat) (r : List Bool) (w : World) (hr : Holds w A (r.map Bo)) (hr24 : r.length ≤ 1000) :
    Calls Tryd.prog 56 #[.slice A r.length c, .bool true] w fun e w' => (∃ k : Int, e = .returned (.int .i64 k) ∧ (0 ≤ k ↔ true ∈ r)) ∧ w' = w := by
  have HR := Lib.hid hr
  clear hr
  go_enter Tryd.func56, Tryd.ntmps56
  go_wp2
  go_loop [8] (fun i => ∃ j : Nat, i = .int .i64 j ∧ j ≤ r.length ∧ Hid (∀ i (h : i < r.length), i < j → r[i] = false)) (fun i => r.length - (intOf i).toNat)
  case atStart => exact ⟨0, rfl, Nat.zero_le _, Lib.hid (fun i _ h => by omega)⟩
  case round =>
    obtain ⟨j, rfl, hj, HP⟩ := hrel
    by_cases hjt : j < r.length
    · obtain ⟨b, o, hA, _, hc⟩ := HR.out.at_ (by rw [List.length_map]; omega)
      have e1 := hc j (by rw [List.length_map]; exact hjt)
      rw [List.getElem_map] at e1
      subst hA
      have HM : Hid (r[j] = true → true ∈ r) := Lib.hid (fun h => by rw [← h]; exact List.getElem_mem hjt)
      have HN : Hid (r[j] = false → ∀ i (h : i < r.length), i < j + 1 → r[i] = false) := Lib.hid (fun hf i hi h2 => by
        rcases Nat.lt_succ_iff_lt_or_eq.1 h2 with h3 | rfl
        · exact HP.out i hi h3
        · exact hf)
      clear hc HP
      generalize r[j] = y at *
      rcases y with _ | _
      · go_wp2
        go_round
        case rel => exact ⟨j + 1, by go_num, by omega, Lib.hid (HN.out (by first | rfl | trivial))⟩
        case measure => simp [intOf]; omega
      · have HE : Hid (true ∈ r) := Lib.hid (HM.out (by first | rfl | trivial))
        clear HM HN
        go_wp2
        go_ret
        exact ⟨⟨_, rfl, ⟨fun _ => HE.out, fun _ => by omega⟩⟩, rfl⟩
    · have HE : Hid (¬ true ∈ r) := Lib.hid (fun h => by
        obtain ⟨i, hi, e⟩ := List.mem_iff_getElem.1 h
        rw [HP.out i hi (by omega)] at e
        cases e)
      clear HP
      go_wp2
      go_ret
      exact ⟨⟨_, rfl, ⟨fun h => by omega, fun h => absurd h HE.out⟩⟩, rfl⟩
theorem containsB_c (A : Option Addr) (c : Nat) (r : List Bool) (w : World) (hr : Holds w A (r.map Bo)) (hr24 : r.length ≤ 1000) :
    Calls Tryd.prog 39 #[.slice A r.length c, .bool true] w fun e w' => e = .returned (.bool (decide (true ∈ r))) ∧ w' = w := by
  have CI := Lib.hid (indexB_c A c r w hr hr24)
  clear hr
  go_enter Tryd.func39, Tryd.ntmps39
  go_wp2_with fail
  refine CI.out.mono ?_
  rintro e w1 ⟨⟨k, rfl, hk⟩, rfl⟩
  have HK := Lib.hid hk
  clear hk CI
  go_wp2
  go_ret
  exact ⟨gr_bool (decide_eq_decide.2 HK.out), rfl⟩
/-- A part of a row. -/
theorem Holds.part {w : World} {b o : Nat} {xs : List Value} (h : Holds w (some ⟨b, o, none⟩) xs) (i n : Nat) (hn : i + n ≤ xs.length) : Holds w (some ⟨b, o + i, none⟩) ((xs.drop i).take n) := by
  rcases h with h | ⟨b', o', hA, hb, hc⟩
  · left; subst h; simp
  · injection hA with hA
    injection hA with e1 e2
    subst e1 e2
    right
    refine ⟨b, o + i, rfl, hb, fun j hj => ?_⟩
    rw [List.length_take, List.length_drop] at hj
    rw [Nat.add_assoc, hc (i + j) (by omega), List.getElem_take, List.getElem_drop]
theorem openS_part {s : List Bool} {x : SpurD} {b n : Nat} (hb : x.base = (b : Int)) (hn : x.slots = (n : Int)) (h : b + n ≤ s.length) : ((List.range x.slots.toNat).any (fun j => atB s (x.base.toNat + j))) = decide (true ∈ (s.drop b).take n) := by
  rw [hb, hn, Int.toNat_natCast, Int.toNat_natCast, Bool.eq_iff_iff, List.any_eq_true, decide_eq_true_iff]
  constructor
  · rintro ⟨j, hj, h1⟩
    have hj' := List.mem_range.1 hj
    rw [atB_get (by omega)] at h1
    refine List.mem_iff_getElem.2 ⟨j, by rw [List.length_take, List.length_drop]; omega, ?_⟩
    rw [List.getElem_take, List.getElem_drop]
    exact h1
  · intro h1
    obtain ⟨j, hj, e⟩ := List.mem_iff_getElem.1 h1
    rw [List.length_take, List.length_drop] at hj
    rw [List.getElem_take, List.getElem_drop] at e
    exact ⟨j, List.mem_range.2 (by omega), by rw [atB_get (by omega)]; exact e⟩
set_option maxRecDepth 100000 in
set_option maxHeartbeats 8000000 in
theorem devOpen_c (Ab An As Ar B : Option Addr) (cb cn cs cr d k : Nat) (N : NetD) (s : List Bool) (w : World) (hN : NetAt w Ab An As Ar N) (hok : NetOk N) (hcr : N.robots.length ≤ cr) (hs : Holds w B (s.map Bo)) (hsl : (s.length : Int) = cellsN N) (hd : s.length ≤ d) (hk : k < N.spurs.length) :
    Calls Tryd.prog 20 #[.agg #[.slice Ab N.blocks.length cb, .slice An N.next.length cn, .slice As N.spurs.length cs, .slice Ar N.robots.length cr, Iv N.queue, Iv N.aging, Iv N.detours, Iv N.patience], .slice B s.length d, .int .i64 k] w fun e w' => e = .returned (.tuple #[.bool (openS s N.spurs[k]), .int .i64 0]) ∧ Below w.heap.size w w' := by
  have CC := Lib.hid (fun W (hW : Below w.heap.size w W) => count_c Ab An As Ar cb cn cs cr N W (hN.keep hW) hok hcr)
  have CI := Lib.hid (fun W => isSpur_c Ab An As Ar cb cn cs cr k N W hk)
  have HS := Lib.hid hN.spurs
  have HSh := Lib.hid hs
  have hcl := cellsN_le hok.few'
  have h48 : s.length ≤ 48 := by omega
  have h6 := hok.spurs6
  have hbd := hok.bounds _ (List.getElem_mem hk)
  have hso := hok.spurOk _ (List.getElem_mem hk)
  obtain ⟨⟨i1, i2⟩, ⟨o1, o2⟩, _⟩ := hso
  have hnb : (N.blocks.length : Int) ≤ s.length ∧ N.spurs[k].base + N.spurs[k].slots ≤ s.length := by
    have h1 := hok.spurIn _ (List.getElem_mem hk)
    have h3 := slotsK_bounds (l := N.spurs) (fun s hs => by have := (hok.spurOk s hs).slots; omega) N.spurs.length (Nat.le_refl _)
    have h4 := h1.base.2.2
    have h5 : cellsN N = N.blocks.length + slotsK N.spurs N.spurs.length := rfl
    omega
  obtain ⟨si, hsi⟩ := Int.eq_ofNat_of_zero_le i1
  obtain ⟨so, hso⟩ := Int.eq_ofNat_of_zero_le o1
  obtain ⟨sb, hsb⟩ := Int.eq_ofNat_of_zero_le hbd.2.1
  obtain ⟨sw, hsw⟩ := Int.eq_ofNat_of_zero_le (show 0 ≤ N.spurs[k].slots by omega)
  have hsiL : si < s.length := by omega
  have hsoL : so < s.length := by omega
  have HOp : Hid (openS s N.spurs[k] = (!(s[si]'hsiL) && !(s[so]'hsoL) && !decide (true ∈ (s.drop sb).take sw))) := Lib.hid (by
    unfold openS
    rw [openS_part hsb hsw (by omega), hsi, hso, Int.toNat_natCast, Int.toNat_natCast, atB_get (by omega), atB_get (by omega), Bool.not_or])
  have h0 : 0 < s.length := by omega
  obtain ⟨bS, oS, rfl, hbS, hc⟩ := hs.at_ (by rw [List.length_map]; exact h0)
  have HCi : Hid (∀ W, Below w.heap.size w W → W.cell? ⟨bS, oS + si, none⟩ = some (Bo (s[si]'hsiL)) ∧ W.cell? ⟨bS, oS + so, none⟩ = some (Bo (s[so]'hsoL))) := Lib.hid (fun W hW => by
    have e1 := hc si (by rw [List.length_map]; exact hsiL)
    have e2 := hc so (by rw [List.length_map]; exact hsoL)
    rw [List.getElem_map] at e1 e2
    exact ⟨(hW.cell (p := ⟨bS, oS + si, none⟩) hbS).trans e1, (hW.cell (p := ⟨bS, oS + so, none⟩) hbS).trans e2⟩)
  have hpl : ((s.drop sb).take sw).length = sw := by rw [List.length_take, List.length_drop]; omega
  have CCt : Hid (∀ W dd, Below w.heap.size w W → Calls Tryd.prog 39 #[.slice (some ⟨bS, oS + sb, none⟩) sw dd, .bool true] W fun e w' => e = .returned (.bool (decide (true ∈ (s.drop sb).take sw))) ∧ w' = W) := Lib.hid (fun W dd hW => by
    have h := containsB_c (some ⟨bS, oS + sb, none⟩) dd ((s.drop sb).take sw) W (by
      have h1 := (hs.keep hW).part sb sw (by rw [List.length_map]; omega)
      rw [← List.map_drop, ← List.map_take] at h1
      exact h1) (by omega)
    rw [hpl] at h
    exact h)
  have hne : ((s.length : Int) != cellsN N) = false := by rw [hsl]; simp
  have hB0 := Lib.hid ((Below.refl w.heap.size w).alloc (Nat.le_refl _) (.cells (netCells Ab An As Ar cb cn cs cr N) 29))
  have HX := Lib.hid (boxAt_of (heap_alloc_new w (.cells (netCells Ab An As Ar cb cn cs cr N) 29)))
  have hsz0 : w.heap.size < (w.alloc (.cells (netCells Ab An As Ar cb cn cs cr N) 29)).heap.size := by simp
  obtain ⟨x0, x1, x2, x3, x4, x5, x6, x7⟩ := boxAt_of (heap_alloc_new w (.cells (netCells Ab An As Ar cb cn cs cr N) 29))
  rw [HOp.out]
  obtain ⟨cN, hcN⟩ : ∃ cN, cN = cellsN N := ⟨_, rfl⟩
  rw [← hcN] at CC hne
  clear hN hok hcr hs hc hsl hcN hcl HOp hpl HSh
  generalize s[si]'hsiL = vi at *
  generalize s[so]'hsoL = vo at *
  generalize decide (true ∈ (s.drop sb).take sw) = vs at *
  obtain ⟨bp, op, rfl, hbp, hsp⟩ := HS.out.spur hk
  have HSp : Hid (∀ W, Below w.heap.size w W → SpurAt W bp (op + k * 6) N.spurs[k]) := Lib.hid (fun W hW => hsp.keep hbp hW)
  clear hsp HS
  generalize N.spurs[k] = x at *
  obtain ⟨nm, dp, xi, xo, xw, xb⟩ := x
  simp only at hbd i1 i2 o1 o2 hnb hsi hso hsb hsw HSp
  subst hsi hso hsb hsw
  have CH := Lib.hid (fun W => headOf_c nm dp (si : Int) (so : Int) (sw : Int) (sb : Int) W (by omega) (by omega))
  go_enter Tryd.func20, Tryd.ntmps20
  go_wp2_with fail
  generalize w.alloc (.cells (netCells Ab An (some ⟨bp, op, none⟩) Ar cb cn cs cr N) 29) = w0 at *
  refine (CC.out _ hB0.out).mono ?_
  rintro e w1 ⟨rfl, hb1⟩
  have HB1 : Hid (Below w0.heap.size w0 w1) := Lib.hid hb1
  clear x0 x1 x2 x3 x4 x5 x6 x7 hb1 CC
  obtain ⟨x0, x1, x2, x3, x4, x5, x6, x7⟩ := HX.out.keep hsz0 HB1.out
  go_wp2_with fail
  refine (CI.out _).mono ?_
  rintro e w2 ⟨rfl, hb2⟩
  have HB2 : Hid (Below w0.heap.size w0 w2) := Lib.hid (HB1.out.trans (hb2.mono HB1.out.size))
  have HBw2 := Lib.hid (hB0.out.trans (HB2.out.mono (Nat.le_of_lt hsz0)))
  clear x0 x1 x2 x3 x4 x5 x6 x7 hb2 CI HB1
  obtain ⟨_, _, x2, _, _, _, _, _⟩ := HX.out.keep hsz0 HB2.out
  obtain ⟨c0, c1, c2, c3, c4, c5⟩ := HSp.out _ HBw2.out
  simp only at c0 c1 c2 c3 c4 c5
  have HBa : Hid (∀ ob, Below w.heap.size w (w2.alloc ob)) := Lib.hid (fun ob => HBw2.out.alloc HBw2.out.size ob)
  have hY := heap_alloc_new w2 (.cells #[Sv nm, Bo dp, Iv si, Iv so, Iv sw, Iv sb] 57)
  have HY := Lib.hid hY
  clear hY
  have b1 : (0 : Int) ≤ (sb : Int) := by omega
  have b2 : (sb : Int) ≤ (sb : Int) + (sw : Int) := by omega
  have b3 : (sb : Int) + (sw : Int) ≤ (d : Int) := by omega
  have b4 : (si : Int) < (s.length : Int) := by omega
  have b5 : (so : Int) < (s.length : Int) := by omega
  obtain ⟨tp, htp⟩ : ∃ tp, tp = sb + sw := ⟨_, rfl⟩
  have hw2 : IntKind.i64.wrap ((sb : Int) + (sw : Int)) = (tp : Int) := by
    rw [show (tp : Int) = (sb : Int) + (sw : Int) by omega]
    exact IntWalk.i64_in _ (by omega)
  have t1 : tp - sb = sw := by omega
  have t2 : sb ≤ tp := by omega
  have t3 : tp ≤ d := by omega
  have t4 : ¬ d = sb := by omega
  have t5 : (tp : Int) ≤ (d : Int) := by omega
  clear htp b2 b3
  go_wp2_with fail
  go_region_law (first | (go_simp; go_at_call 29; refine (CH.out _).mono ?_; rintro e w3 ⟨rfl, hb3⟩; have HBw3 : Hid (Below w.heap.size w w3) := Lib.hid ((HBa.out _).drew.trans (hb3.mono (HBa.out _).drew.size)); have hY3 := (hb3.block w2.heap.size (by simp)).trans HY.out; have HY3 := Lib.hid hY3; clear hb3 hY3; have y2 : w3.cell? ⟨w2.heap.size, 2, none⟩ = some (Iv si) := (by rw [cell_of_row _ _ 2 _ _ _ HY3.out]; rfl); have y3 : w3.cell? ⟨w2.heap.size, 3, none⟩ = some (Iv so) := (by rw [cell_of_row _ _ 3 _ _ _ HY3.out]; rfl); have y5 : w3.cell? ⟨w2.heap.size, 5, none⟩ = some (Iv sb) := (by rw [cell_of_row _ _ 5 _ _ _ HY3.out]; rfl)))
  all_goals
    obtain ⟨v1, v2⟩ := HCi.out _ HBw3.out
    have CQ := Lib.hid (fun dd => CCt.out w3 dd HBw3.out)
    clear HCi CCt HSp
    rcases vi with _ | _
    · rcases vo with _ | _
      · go_wp2_with fail
        refine (CQ.out _).mono ?_
        rintro e w4 ⟨rfl, rfl⟩
        go_wp2
        go_ret2
        exact ⟨rfl, HBw3.out⟩
      · go_wp2
        go_ret2
        exact ⟨rfl, HBw3.out⟩
    · go_wp2
      go_ret2
      exact ⟨rfl, HBw3.out⟩
end Go.Proofs.YtpdjcccpohnmcaaDoor
