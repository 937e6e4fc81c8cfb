/- Joined texts. -/
import Derived.Test.YthfhplhdfnebhaaMjH
import Derived.Test.YthfhplhdfnebhaaNtFleet
import Derived.Test.YthfhplhdfnebhaaMjA
import Derived.Deep.RegionHeld3
import Derived.Laws.CopyOwn
namespace Go.Proofs.Ythfhplhdfnebhaa
open Go Go.RowKit Fl

theorem headOf_c (nm : List UInt8) (dp : Bool) (si so sw sb : Int) (w : World) (h1 : 0 ≤ sw ∧ sw ≤ 1000) (h2 : 0 ≤ sb ∧ sb ≤ 1000) : Calls Try.prog 31 #[.agg #[Sv nm, Bo dp, Iv si, Iv so, Iv sw, Iv sb]] w fun e w' => e = .returned (.int .i64 (sb + sw - 1)) ∧ Below w.heap.size w w' := by
  have hB0 := Lib.hid ((Below.refl w.heap.size w).alloc (Nat.le_refl _) (.cells #[Sv nm, Bo dp, Iv si, Iv so, Iv sw, Iv sb] 49))
  have hw1 : IntKind.i64.wrap (sb + sw) = sb + sw := IntWalk.i64_in _ (by omega)
  have hw2 : IntKind.i64.wrap (sb + sw - 1) = sb + sw - 1 := IntWalk.i64_in _ (by omega)
  go_enter Try.func31, Try.ntmps31
  go_wp2
  go_ret
  exact ⟨rfl, hB0.out⟩
theorem NetOk.bounds {N : NetD} (hok : NetOk N) : ∀ s ∈ N.spurs, (1 ≤ s.slots ∧ s.slots ≤ 4) ∧ 0 ≤ s.base ∧ s.base ≤ 100 := fun s hs => by
  obtain ⟨k, hk, rfl⟩ := List.mem_iff_getElem.1 hs
  have h1 := (hok.spurOk _ hs).slots
  have h2 := hok.bases k hk
  have h3 := slotsK_bounds (l := N.spurs) (fun s hs => by have := (hok.spurOk s hs).slots; omega) k (by omega)
  have h4 := hok.few
  have h5 := hok.spurs6
  omega
set_option maxRecDepth 100000 in
set_option maxHeartbeats 4000000 in
theorem count_c (Ab An As Ar : Option Addr) (cb cn cs cr : Nat) (N : NetD) (w : World) (hN : NetAt w Ab An As Ar N) (hok : NetOk N) (hcr : N.robots.length ≤ cr) :
    Calls Try.prog 29 #[.agg #[.slice Ab N.blocks.length cb, .slice An N.next.length cn, .slice As N.spurs.length cs, .slice Ar N.robots.length cr, Iv N.queue, Iv N.aging, Iv N.detours, Iv N.patience]] w fun e w' => e = .returned (.tuple #[.int .i64 (cellsN N), .int .i64 0]) ∧ Below w.heap.size w w' := by
  have CV := Lib.hid (fun W (hW : Below w.heap.size w W) => netValid_c Ab An As Ar cb cn cs cr N W (hN.keep hW) hok hcr)
  have HS := Lib.hid hN.spurs
  have h6 := hok.spurs6
  have hpos : 0 < N.spurs.length := by
    obtain ⟨s, hs, _⟩ := hok.depot
    exact List.length_pos_of_mem hs
  have hlast : N.spurs.length - 1 < N.spurs.length := by omega
  have HE : Hid (cellsN N = N.spurs[N.spurs.length - 1].base + N.spurs[N.spurs.length - 1].slots - 1 + 1) := Lib.hid (by
    have h1 := hok.bases _ hlast
    have h2 := slotsK_succ hlast
    rw [show N.spurs.length - 1 + 1 = N.spurs.length by omega] at h2
    unfold cellsN
    omega)
  have hbd := hok.bounds _ (List.getElem_mem hlast)
  have hB0 := Lib.hid ((Below.refl w.heap.size w).alloc (Nat.le_refl _) (.cells (netCells Ab An As Ar cb cn cs cr N) 29))
  have HX := Lib.hid (boxAt_of (heap_alloc_new w (.cells (netCells Ab An As Ar cb cn cs cr N) 29)))
  have hsz0 : w.heap.size < (w.alloc (.cells (netCells Ab An As Ar cb cn cs cr N) 29)).heap.size := by simp
  obtain ⟨x0, x1, x2, x3, x4, x5, x6, x7⟩ := boxAt_of (heap_alloc_new w (.cells (netCells Ab An As Ar cb cn cs cr N) 29))
  clear hN hok
  go_enter Try.func29, Try.ntmps29
  go_wp2_with fail
  generalize w.alloc (.cells (netCells Ab An As Ar cb cn cs cr N) 29) = w0 at *
  refine (CV.out _ hB0.out).mono ?_
  rintro e w1 ⟨rfl, hb1⟩
  have HB1 : Hid (Below w0.heap.size w0 w1) := Lib.hid hb1
  have HBw1 := Lib.hid (hB0.out.trans (hb1.mono (Nat.le_of_lt hsz0)))
  clear x0 x1 x2 x3 x4 x5 x6 x7 hb1 CV
  obtain ⟨_, _, x2, _, _, _, _, _⟩ := HX.out.keep hsz0 HB1.out
  obtain ⟨b, o, rfl, hbl, hs⟩ := HS.out.spur hlast
  obtain ⟨c0, c1, c2, c3, c4, c5⟩ := hs.keep hbl HBw1.out
  obtain ⟨lk, hlk⟩ : ∃ lk, lk = N.spurs.length - 1 := ⟨_, rfl⟩
  have hl1 : (N.spurs.length : Int) - 1 = (lk : Int) := by omega
  have hw1 : IntKind.i64.wrap ((N.spurs.length : Int) - 1) = (lk : Int) := by rw [← hl1]; exact IntWalk.i64_in _ (by omega)
  have hlt : lk < N.spurs.length := by omega
  clear hs
  generalize N.spurs[N.spurs.length - 1] = s at *
  rw [← hlk] at c0 c1 c2 c3 c4 c5
  obtain ⟨nm, dp, si, so, sw, sb⟩ := s
  simp only at c0 c1 c2 c3 c4 c5 hbd HE
  have CH := Lib.hid (fun W => headOf_c nm dp si so sw sb W (by omega) (by omega))
  have hw2 : IntKind.i64.wrap (sb + sw - 1 + 1) = sb + sw - 1 + 1 := IntWalk.i64_in _ (by omega)
  clear hlk hl1 hlast
  go_wp2_with fail
  refine (CH.out _).mono ?_
  rintro e w2 ⟨rfl, hb2⟩
  have HB2 := Lib.hid (HBw1.out.trans (hb2.mono HBw1.out.size))
  clear hb2
  go_wp2
  go_ret2
  have h := HE.out
  have h' : cellsN N = sb + sw := by omega
  first
  | exact ⟨(by rw [h] : Ending.returned (.tuple #[.int .i64 (sb + sw - 1 + 1), .int .i64 0]) = .returned (.tuple #[.int .i64 (cellsN N), .int .i64 0])), HB2.out⟩
  | exact ⟨(by rw [h'] : Ending.returned (.tuple #[.int .i64 (sb + sw), .int .i64 0]) = .returned (.tuple #[.int .i64 (cellsN N), .int .i64 0])), HB2.out⟩
theorem isSpur_c (Ab An As Ar : Option Addr) (cb cn cs cr k : Nat) (N : NetD) (w : World) (hk : k < N.spurs.length) :
    Calls Try.prog 30 #[.agg #[.slice Ab N.blocks.length cb, .slice An N.next.length cn, .slice As N.spurs.length cs, .slice Ar N.robots.length cr, Iv N.queue, Iv N.aging, Iv N.detours, Iv N.patience], .int .i64 k] w fun e w' => e = .returned (.bool true) ∧ Below w.heap.size w w' := by
  have hB0 := Lib.hid ((Below.refl w.heap.size w).alloc (Nat.le_refl _) (.cells (netCells Ab An As Ar cb cn cs cr N) 29))
  obtain ⟨_, _, x2, _⟩ := boxAt_of (heap_alloc_new w (.cells (netCells Ab An As Ar cb cn cs cr N) 29))
  go_enter Try.func30, Try.ntmps30
  go_wp2
  go_ret
  exact ⟨rfl, hB0.out⟩
end Go.Proofs.Ythfhplhdfnebhaa
namespace Go.Proofs.Ythfhplhdfnebhaa
open Go Go.RowKit Fl

set_option maxRecDepth 100000 in
set_option maxHeartbeats 4000000 in
theorem indexB_c (A : Option Addr) (c : Nat) (r : List Bool) (w : World) (hr : Holds w A (r.map Bo)) (hr24 : r.length ≤ 1000) :
    Calls Try.prog 43 #[.slice A r.length c, .bool true] w fun e w' => (∃ k : Int, e = .returned (.int .i64 k) ∧ (0 ≤ k ↔ true ∈ r)) ∧ w' = w := by
  have HR := Lib.hid hr
  clear hr
  go_enter Try.func43, Try.ntmps43
  go_wp2
  go_loop [8] (fun i => ∃ j : Nat, i = .int .i64 j ∧ j ≤ r.length ∧ Hid (∀ i (h : i < r.length), i < j → r[i] = false)) (fun i => r.length - (intOf i).toNat)
  case atStart => exact ⟨0, rfl, Nat.zero_le _, Lib.hid (fun i _ h => by omega)⟩
  case round =>
    obtain ⟨j, rfl, hj, HP⟩ := hrel
    by_cases hjt : j < r.length
    · obtain ⟨b, o, hA, _, hc⟩ := HR.out.at_ (by rw [List.length_map]; omega)
      have e1 := hc j (by rw [List.length_map]; exact hjt)
      rw [List.getElem_map] at e1
      subst hA
      have HM : Hid (r[j] = true → true ∈ r) := Lib.hid (fun h => by rw [← h]; exact List.getElem_mem hjt)
      have HN : Hid (r[j] = false → ∀ i (h : i < r.length), i < j + 1 → r[i] = false) := Lib.hid (fun hf i hi h2 => by
        rcases Nat.lt_succ_iff_lt_or_eq.1 h2 with h3 | rfl
        · exact HP.out i hi h3
        · exact hf)
      clear hc HP
      generalize r[j] = y at *
      rcases y with _ | _
      · go_wp2
        go_round
        case rel => exact ⟨j + 1, by go_num, by omega, Lib.hid (HN.out (by first | rfl | trivial))⟩
        case measure => simp [intOf]; omega
      · have HE : Hid (true ∈ r) := Lib.hid (HM.out (by first | rfl | trivial))
        clear HM HN
        go_wp2
        go_ret
        exact ⟨⟨_, rfl, ⟨fun _ => HE.out, fun _ => by omega⟩⟩, rfl⟩
    · have HE : Hid (¬ true ∈ r) := Lib.hid (fun h => by
        obtain ⟨i, hi, e⟩ := List.mem_iff_getElem.1 h
        rw [HP.out i hi (by omega)] at e
        cases e)
      clear HP
      go_wp2
      go_ret
      exact ⟨⟨_, rfl, ⟨fun h => by omega, fun h => absurd h HE.out⟩⟩, rfl⟩
theorem containsB_c (A : Option Addr) (c : Nat) (r : List Bool) (w : World) (hr : Holds w A (r.map Bo)) (hr24 : r.length ≤ 1000) :
    Calls Try.prog 32 #[.slice A r.length c, .bool true] w fun e w' => e = .returned (.bool (decide (true ∈ r))) ∧ w' = w := by
  have CI := Lib.hid (indexB_c A c r w hr hr24)
  clear hr
  go_enter Try.func32, Try.ntmps32
  go_wp2_with fail
  refine CI.out.mono ?_
  rintro e w1 ⟨⟨k, rfl, hk⟩, rfl⟩
  have HK := Lib.hid hk
  clear hk CI
  go_wp2
  go_ret
  exact ⟨gr_bool (decide_eq_decide.2 HK.out), rfl⟩
/-- A part of a row. -/
theorem Holds.part {w : World} {b o : Nat} {xs : List Value} (h : Holds w (some ⟨b, o, none⟩) xs) (i n : Nat) (hn : i + n ≤ xs.length) : Holds w (some ⟨b, o + i, none⟩) ((xs.drop i).take n) := by
  rcases h with h | ⟨b', o', hA, hb, hc⟩
  · left; subst h; simp
  · injection hA with hA
    injection hA with e1 e2
    subst e1 e2
    right
    refine ⟨b, o + i, rfl, hb, fun j hj => ?_⟩
    rw [List.length_take, List.length_drop] at hj
    rw [Nat.add_assoc, hc (i + j) (by omega), List.getElem_take, List.getElem_drop]
theorem openS_part {s : List Bool} {x : SpurD} {b n : Nat} (hb : x.base = (b : Int)) (hn : x.slots = (n : Int)) (h : b + n ≤ s.length) : ((List.range x.slots.toNat).any (fun j => atB s (x.base.toNat + j))) = decide (true ∈ (s.drop b).take n) := by
  rw [hb, hn, Int.toNat_natCast, Int.toNat_natCast, Bool.eq_iff_iff, List.any_eq_true, decide_eq_true_iff]
  constructor
  · rintro ⟨j, hj, h1⟩
    have hj' := List.mem_range.1 hj
    rw [atB_get (by omega)] at h1
    refine List.mem_iff_getElem.2 ⟨j, by rw [List.length_take, List.length_drop]; omega, ?_⟩
    rw [List.getElem_take, List.getElem_drop]
    exact h1
  · intro h1
    obtain ⟨j, hj, e⟩ := List.mem_iff_getElem.1 h1
    rw [List.length_take, List.length_drop] at hj
    rw [List.getElem_take, List.getElem_drop] at e
    exact ⟨j, List.mem_range.2 (by omega), by rw [atB_get (by omega)]; exact e⟩
set_option maxRecDepth 100000 in
set_option maxHeartbeats 8000000 in
theorem devOpen_c (Ab An As Ar B : Option Addr) (cb cn cs cr d k : Nat) (N : NetD) (s : List Bool) (w : World) (hN : NetAt w Ab An As Ar N) (hok : NetOk N) (hcr : N.robots.length ≤ cr) (hs : Holds w B (s.map Bo)) (hsl : (s.length : Int) = cellsN N) (hd : s.length ≤ d) (hk : k < N.spurs.length) :
    Calls Try.prog 20 #[.agg #[.slice Ab N.blocks.length cb, .slice An N.next.length cn, .slice As N.spurs.length cs, .slice Ar N.robots.length cr, Iv N.queue, Iv N.aging, Iv N.detours, Iv N.patience], .slice B s.length d, .int .i64 k] w fun e w' => e = .returned (.tuple #[.bool (openS s N.spurs[k]), .int .i64 0]) ∧ Below w.heap.size w w' := by
  have CC := Lib.hid (fun W (hW : Below w.heap.size w W) => count_c Ab An As Ar cb cn cs cr N W (hN.keep hW) hok hcr)
  have CI := Lib.hid (fun W => isSpur_c Ab An As Ar cb cn cs cr k N W hk)
  have HS := Lib.hid hN.spurs
  have HSh := Lib.hid hs
  have hcl := cellsN_le hok.few'
  have h48 : s.length ≤ 48 := by omega
  have h6 := hok.spurs6
  have hbd := hok.bounds _ (List.getElem_mem hk)
  have hso := hok.spurOk _ (List.getElem_mem hk)
  obtain ⟨⟨i1, i2⟩, ⟨o1, o2⟩, _⟩ := hso
  have hnb : (N.blocks.length : Int) ≤ s.length ∧ N.spurs[k].base + N.spurs[k].slots ≤ s.length := by
    have h1 := hok.spurIn _ (List.getElem_mem hk)
    have h3 := slotsK_bounds (l := N.spurs) (fun s hs => by have := (hok.spurOk s hs).slots; omega) N.spurs.length (Nat.le_refl _)
    have h4 := h1.base.2.2
    have h5 : cellsN N = N.blocks.length + slotsK N.spurs N.spurs.length := rfl
    omega
  obtain ⟨si, hsi⟩ := Int.eq_ofNat_of_zero_le i1
  obtain ⟨so, hso⟩ := Int.eq_ofNat_of_zero_le o1
  obtain ⟨sb, hsb⟩ := Int.eq_ofNat_of_zero_le hbd.2.1
  obtain ⟨sw, hsw⟩ := Int.eq_ofNat_of_zero_le (show 0 ≤ N.spurs[k].slots by omega)
  have hsiL : si < s.length := by omega
  have hsoL : so < s.length := by omega
  have HOp : Hid (openS s N.spurs[k] = (!(s[si]'hsiL) && !(s[so]'hsoL) && !decide (true ∈ (s.drop sb).take sw))) := Lib.hid (by
    unfold openS
    rw [openS_part hsb hsw (by omega), hsi, hso, Int.toNat_natCast, Int.toNat_natCast, atB_get (by omega), atB_get (by omega), Bool.not_or])
  have h0 : 0 < s.length := by omega
  obtain ⟨bS, oS, rfl, hbS, hc⟩ := hs.at_ (by rw [List.length_map]; exact h0)
  have HCi : Hid (∀ W, Below w.heap.size w W → W.cell? ⟨bS, oS + si, none⟩ = some (Bo (s[si]'hsiL)) ∧ W.cell? ⟨bS, oS + so, none⟩ = some (Bo (s[so]'hsoL))) := Lib.hid (fun W hW => by
    have e1 := hc si (by rw [List.length_map]; exact hsiL)
    have e2 := hc so (by rw [List.length_map]; exact hsoL)
    rw [List.getElem_map] at e1 e2
    exact ⟨(hW.cell (p := ⟨bS, oS + si, none⟩) hbS).trans e1, (hW.cell (p := ⟨bS, oS + so, none⟩) hbS).trans e2⟩)
  have hpl : ((s.drop sb).take sw).length = sw := by rw [List.length_take, List.length_drop]; omega
  have CCt : Hid (∀ W dd, Below w.heap.size w W → Calls Try.prog 32 #[.slice (some ⟨bS, oS + sb, none⟩) sw dd, .bool true] W fun e w' => e = .returned (.bool (decide (true ∈ (s.drop sb).take sw))) ∧ w' = W) := Lib.hid (fun W dd hW => by
    have h := containsB_c (some ⟨bS, oS + sb, none⟩) dd ((s.drop sb).take sw) W (by
      have h1 := (hs.keep hW).part sb sw (by rw [List.length_map]; omega)
      rw [← List.map_drop, ← List.map_take] at h1
      exact h1) (by omega)
    rw [hpl] at h
    exact h)
  have hne : ((s.length : Int) != cellsN N) = false := by rw [hsl]; simp
  have hB0 := Lib.hid ((Below.refl w.heap.size w).alloc (Nat.le_refl _) (.cells (netCells Ab An As Ar cb cn cs cr N) 29))
  have HX := Lib.hid (boxAt_of (heap_alloc_new w (.cells (netCells Ab An As Ar cb cn cs cr N) 29)))
  have hsz0 : w.heap.size < (w.alloc (.cells (netCells Ab An As Ar cb cn cs cr N) 29)).heap.size := by simp
  obtain ⟨x0, x1, x2, x3, x4, x5, x6, x7⟩ := boxAt_of (heap_alloc_new w (.cells (netCells Ab An As Ar cb cn cs cr N) 29))
  rw [HOp.out]
  obtain ⟨cN, hcN⟩ : ∃ cN, cN = cellsN N := ⟨_, rfl⟩
  rw [← hcN] at CC hne
  clear hN hok hcr hs hc hsl hcN hcl HOp hpl HSh
  generalize s[si]'hsiL = vi at *
  generalize s[so]'hsoL = vo at *
  generalize decide (true ∈ (s.drop sb).take sw) = vs at *
  obtain ⟨bp, op, rfl, hbp, hsp⟩ := HS.out.spur hk
  have HSp : Hid (∀ W, Below w.heap.size w W → SpurAt W bp (op + k * 6) N.spurs[k]) := Lib.hid (fun W hW => hsp.keep hbp hW)
  clear hsp HS
  generalize N.spurs[k] = x at *
  obtain ⟨nm, dp, xi, xo, xw, xb⟩ := x
  simp only at hbd i1 i2 o1 o2 hnb hsi hso hsb hsw HSp
  subst hsi hso hsb hsw
  have CH := Lib.hid (fun W => headOf_c nm dp (si : Int) (so : Int) (sw : Int) (sb : Int) W (by omega) (by omega))
  go_enter Try.func20, Try.ntmps20
  go_wp2_with fail
  generalize w.alloc (.cells (netCells Ab An (some ⟨bp, op, none⟩) Ar cb cn cs cr N) 29) = w0 at *
  refine (CC.out _ hB0.out).mono ?_
  rintro e w1 ⟨rfl, hb1⟩
  have HB1 : Hid (Below w0.heap.size w0 w1) := Lib.hid hb1
  clear x0 x1 x2 x3 x4 x5 x6 x7 hb1 CC
  obtain ⟨x0, x1, x2, x3, x4, x5, x6, x7⟩ := HX.out.keep hsz0 HB1.out
  go_wp2_with fail
  refine (CI.out _).mono ?_
  rintro e w2 ⟨rfl, hb2⟩
  have HB2 : Hid (Below w0.heap.size w0 w2) := Lib.hid (HB1.out.trans (hb2.mono HB1.out.size))
  have HBw2 := Lib.hid (hB0.out.trans (HB2.out.mono (Nat.le_of_lt hsz0)))
  clear x0 x1 x2 x3 x4 x5 x6 x7 hb2 CI HB1
  obtain ⟨_, _, x2, _, _, _, _, _⟩ := HX.out.keep hsz0 HB2.out
  obtain ⟨c0, c1, c2, c3, c4, c5⟩ := HSp.out _ HBw2.out
  simp only at c0 c1 c2 c3 c4 c5
  have HBa : Hid (∀ ob, Below w.heap.size w (w2.alloc ob)) := Lib.hid (fun ob => HBw2.out.alloc HBw2.out.size ob)
  have hY := heap_alloc_new w2 (.cells #[Sv nm, Bo dp, Iv si, Iv so, Iv sw, Iv sb] 49)
  have HY := Lib.hid hY
  clear hY
  have b1 : (0 : Int) ≤ (sb : Int) := by omega
  have b2 : (sb : Int) ≤ (sb : Int) + (sw : Int) := by omega
  have b3 : (sb : Int) + (sw : Int) ≤ (d : Int) := by omega
  have b4 : (si : Int) < (s.length : Int) := by omega
  have b5 : (so : Int) < (s.length : Int) := by omega
  obtain ⟨tp, htp⟩ : ∃ tp, tp = sb + sw := ⟨_, rfl⟩
  have hw2 : IntKind.i64.wrap ((sb : Int) + (sw : Int)) = (tp : Int) := by
    rw [show (tp : Int) = (sb : Int) + (sw : Int) by omega]
    exact IntWalk.i64_in _ (by omega)
  have t1 : tp - sb = sw := by omega
  have t2 : sb ≤ tp := by omega
  have t3 : tp ≤ d := by omega
  have t4 : ¬ d = sb := by omega
  have t5 : (tp : Int) ≤ (d : Int) := by omega
  clear htp b2 b3
  go_wp2_with fail
  go_region_law (first | (go_simp; go_at_call 31; refine (CH.out _).mono ?_; rintro e w3 ⟨rfl, hb3⟩; have HBw3 : Hid (Below w.heap.size w w3) := Lib.hid ((HBa.out _).drew.trans (hb3.mono (HBa.out _).drew.size)); have hY3 := (hb3.block w2.heap.size (by simp)).trans HY.out; have HY3 := Lib.hid hY3; clear hb3 hY3; have y2 : w3.cell? ⟨w2.heap.size, 2, none⟩ = some (Iv si) := (by rw [cell_of_row _ _ 2 _ _ _ HY3.out]; rfl); have y3 : w3.cell? ⟨w2.heap.size, 3, none⟩ = some (Iv so) := (by rw [cell_of_row _ _ 3 _ _ _ HY3.out]; rfl); have y5 : w3.cell? ⟨w2.heap.size, 5, none⟩ = some (Iv sb) := (by rw [cell_of_row _ _ 5 _ _ _ HY3.out]; rfl)))
  all_goals
    obtain ⟨v1, v2⟩ := HCi.out _ HBw3.out
    have CQ := Lib.hid (fun dd => CCt.out w3 dd HBw3.out)
    clear HCi CCt HSp
    rcases vi with _ | _
    · rcases vo with _ | _
      · go_wp2_with fail
        refine (CQ.out _).mono ?_
        rintro e w4 ⟨rfl, rfl⟩
        go_wp2
        go_ret2
        exact ⟨rfl, HBw3.out⟩
      · go_wp2
        go_ret2
        exact ⟨rfl, HBw3.out⟩
    · go_wp2
      go_ret2
      exact ⟨rfl, HBw3.out⟩
end Go.Proofs.Ythfhplhdfnebhaa
namespace Go.Proofs.Ythfhplhdfnebhaa
open Go Go.RowKit Fl

set_option maxRecDepth 100000 in
set_option maxHeartbeats 4000000 in
theorem check_c (Ab An As Ar B : Option Addr) (cb cn cs cr d : Nat) (N : NetD) (s : List Bool) (w : World) (hN : NetAt w Ab An As Ar N) (hok : NetOk N) (hcr : N.robots.length ≤ cr) (hsl : (s.length : Int) = cellsN N) :
    Calls Try.prog 19 #[.agg #[.slice Ab N.blocks.length cb, .slice An N.next.length cn, .slice As N.spurs.length cs, .slice Ar N.robots.length cr, Iv N.queue, Iv N.aging, Iv N.detours, Iv N.patience], .slice B s.length d] w fun e w' => e = .returned (.int .i64 0) ∧ Below w.heap.size w w' := by
  have CC := Lib.hid (fun W (hW : Below w.heap.size w W) => count_c Ab An As Ar cb cn cs cr N W (hN.keep hW) hok hcr)
  have hne : ((s.length : Int) != cellsN N) = false := by rw [hsl]; simp
  have hB0 := Lib.hid ((Below.refl w.heap.size w).alloc (Nat.le_refl _) (.cells (netCells Ab An As Ar cb cn cs cr N) 29))
  obtain ⟨x0, x1, x2, x3, x4, x5, x6, x7⟩ := boxAt_of (heap_alloc_new w (.cells (netCells Ab An As Ar cb cn cs cr N) 29))
  have hsz0 : w.heap.size < (w.alloc (.cells (netCells Ab An As Ar cb cn cs cr N) 29)).heap.size := by simp
  obtain ⟨cN, hcN⟩ : ∃ cN, cN = cellsN N := ⟨_, rfl⟩
  rw [← hcN] at CC hne
  clear hN hok hsl hcN hcr
  go_enter Try.func19, Try.ntmps19
  go_wp2_with fail
  generalize w.alloc (.cells (netCells Ab An As Ar cb cn cs cr N) 29) = w0 at *
  refine (CC.out _ hB0.out).mono ?_
  rintro e w1 ⟨rfl, hb1⟩
  have HB1 := Lib.hid (hB0.out.trans (hb1.mono (Nat.le_of_lt hsz0)))
  clear x0 x1 x2 x3 x4 x5 x6 x7 hb1 CC
  go_wp2
  go_ret
  exact ⟨rfl, HB1.out⟩
set_option maxRecDepth 100000 in
set_option maxHeartbeats 8000000 in
theorem devSlots_c (Ab An As Ar B : Option Addr) (cb cn cs cr d : Nat) (N : NetD) (s : List Bool) (w : World) (hN : NetAt w Ab An As Ar N) (hok : NetOk N) (hcr : N.robots.length ≤ cr) (hs : Holds w B (s.map Bo)) (hsl : (s.length : Int) = cellsN N) (hd : s.length ≤ d) :
    Calls Try.prog 9 #[.agg #[.slice Ab N.blocks.length cb, .slice An N.next.length cn, .slice As N.spurs.length cs, .slice Ar N.robots.length cr, Iv N.queue, Iv N.aging, Iv N.detours, Iv N.patience], .slice B s.length d] w fun e w' => e = .returned (.tuple #[.int .i64 (openSum s N.spurs N.spurs.length), .int .i64 0]) ∧ Below w.heap.size w w' := by
  have CC := Lib.hid (fun W (hW : Below w.heap.size w W) => check_c Ab An As Ar B cb cn cs cr d N s W (hN.keep hW) hok hcr hsl)
  have CO := Lib.hid (fun k W (hk : k < N.spurs.length) (hW : Below w.heap.size w W) => devOpen_c Ab An As Ar B cb cn cs cr d k N s W (hN.keep hW) hok hcr (hs.keep hW) hsl hd hk)
  have HS := Lib.hid hN.spurs
  have h6 := hok.spurs6
  have HBd := Lib.hid hok.bounds
  have hB0 := Lib.hid ((Below.refl w.heap.size w).alloc (Nat.le_refl _) (.cells (netCells Ab An As Ar cb cn cs cr N) 29))
  have HX := Lib.hid (boxAt_of (heap_alloc_new w (.cells (netCells Ab An As Ar cb cn cs cr N) 29)))
  have hsz0 : w.heap.size < (w.alloc (.cells (netCells Ab An As Ar cb cn cs cr N) 29)).heap.size := by simp
  obtain ⟨x0, x1, x2, x3, x4, x5, x6, x7⟩ := boxAt_of (heap_alloc_new w (.cells (netCells Ab An As Ar cb cn cs cr N) 29))
  have HRes : Hid (∃ r, r = openSum s N.spurs N.spurs.length) := Lib.hid ⟨_, rfl⟩
  clear hN hok hsl hs hcr HRes
  go_enter Try.func9, Try.ntmps9
  go_wp2_with fail
  generalize w.alloc (.cells (netCells Ab An As Ar cb cn cs cr N) 29) = w0 at *
  refine (CC.out _ hB0.out).mono ?_
  rintro e w1 ⟨rfl, hb1⟩
  have HB1 : Hid (Below w0.heap.size w0 w1) := Lib.hid hb1
  clear x0 x1 x2 x3 x4 x5 x6 x7 hb1 CC
  obtain ⟨_, _, x2, _, _, _, _, _⟩ := HX.out.keep hsz0 HB1.out
  go_wp2
  go_loopw [7, 21] (fun z i wr => ∃ (k : Nat) (zz : Int), i = .int .i64 k ∧ z = .int .i64 zz ∧ k ≤ N.spurs.length ∧ Hid (zz = openSum s N.spurs k) ∧ 0 ≤ zz ∧ zz ≤ 4 * k ∧ Hid (Below w0.heap.size w0 wr)) (fun _ i _ => N.spurs.length - (intOf i).toNat)
  case atStart => exact ⟨0, 0, rfl, rfl, Nat.zero_le _, Lib.hid (by simp [openSum]), by omega, by omega, HB1⟩
  case round =>
    clear x2 HB1
    obtain ⟨k, zz, rfl, rfl, hk, HZ, hz0, hz1, HB⟩ := hrel
    by_cases hlt : k < N.spurs.length
    · have hbw : Below w.heap.size w wr := hB0.out.trans (HB.out.mono (Nat.le_of_lt hsz0))
      obtain ⟨x0, x1, x2, x3, x4, x5, x6, x7⟩ := HX.out.keep hsz0 HB.out
      obtain ⟨bb, ob, rfl, hbb, hs⟩ := HS.out.spur hlt
      obtain ⟨c0, c1, c2, c3, c4, c5⟩ := hs.keep hbb hbw
      obtain ⟨⟨s1, s2⟩, _, _⟩ := HBd.out _ (List.getElem_mem hlt)
      have HZ2 := Lib.hid (openSum_succ (s := s) hlt)
      have HBa : Hid (∀ ob, Below w0.heap.size w0 (wr.alloc ob)) := Lib.hid (fun ob => HB.out.alloc HB.out.size ob)
      have COk := Lib.hid (fun W (hW : Below w0.heap.size w0 W) => CO.out k W hlt (hB0.out.trans (hW.mono (Nat.le_of_lt hsz0))))
      have xa0 : ∀ o, (wr.alloc o).cell? ⟨w.heap.size, 0, none⟩ = some (.slice Ab N.blocks.length cb) := fun o => (HX.out.keep hsz0 (HBa.out o)).c0
      have xa1 : ∀ o, (wr.alloc o).cell? ⟨w.heap.size, 1, none⟩ = some (.slice An N.next.length cn) := fun o => (HX.out.keep hsz0 (HBa.out o)).c1
      have xa2 : ∀ o, (wr.alloc o).cell? ⟨w.heap.size, 2, none⟩ = some (.slice (some ⟨bb, ob, none⟩) N.spurs.length cs) := fun o => (HX.out.keep hsz0 (HBa.out o)).c2
      have xa3 : ∀ o, (wr.alloc o).cell? ⟨w.heap.size, 3, none⟩ = some (.slice Ar N.robots.length cr) := fun o => (HX.out.keep hsz0 (HBa.out o)).c3
      have xa4 : ∀ o, (wr.alloc o).cell? ⟨w.heap.size, 4, none⟩ = some (Iv N.queue) := fun o => (HX.out.keep hsz0 (HBa.out o)).c4
      have xa5 : ∀ o, (wr.alloc o).cell? ⟨w.heap.size, 5, none⟩ = some (Iv N.aging) := fun o => (HX.out.keep hsz0 (HBa.out o)).c5
      have xa6 : ∀ o, (wr.alloc o).cell? ⟨w.heap.size, 6, none⟩ = some (Iv N.detours) := fun o => (HX.out.keep hsz0 (HBa.out o)).c6
      have xa7 : ∀ o, (wr.alloc o).cell? ⟨w.heap.size, 7, none⟩ = some (Iv N.patience) := fun o => (HX.out.keep hsz0 (HBa.out o)).c7
      clear hs HB hbw
      generalize hop : openS s N.spurs[k] = op at *
      generalize N.spurs[k] = x at *
      obtain ⟨nm, dp, si, so, sw, sb⟩ := x
      simp only at c0 c1 c2 c3 c4 c5 s1 s2 HZ2
      clear hop
      have hww : IntKind.i64.wrap (zz + sw) = zz + sw := IntWalk.i64_in _ (by omega)
      have hY := Lib.hid (heap_alloc_new wr (.cells #[Sv nm, Bo dp, Iv si, Iv so, Iv sw, Iv sb] 49))
      go_wp2_with fail
      refine (COk.out _ (HBa.out _)).mono ?_
      rintro e w2 ⟨rfl, hb2⟩
      have HB2 : Hid (Below w0.heap.size w0 w2) := Lib.hid ((HBa.out _).trans (hb2.mono (HBa.out _).size))
      have hY2 := (hb2.block wr.heap.size (by simp)).trans hY.out
      have y1 : w2.cell? ⟨wr.heap.size, 1, none⟩ = some (Bo dp) := by rw [cell_of_row _ _ 1 _ _ _ hY2]; rfl
      have y4 : w2.cell? ⟨wr.heap.size, 4, none⟩ = some (Iv sw) := by rw [cell_of_row _ _ 4 _ _ _ hY2]; rfl
      clear hY2 hb2 hY x0 x1 x2 x3 x4 x5 x6 x7 COk xa0 xa1 xa2 xa3 xa4 xa5 xa6 xa7
      rcases op with _ | _
      · have HZ3 : Hid (zz = openSum s N.spurs (k + 1)) := Lib.hid (by rw [HZ2.out, HZ.out]; simp)
        go_wp2
        go_roundw
        case rel => exact ⟨k + 1, zz, by go_num, rfl, by omega, HZ3, by omega, by omega, HB2⟩
        case measure => simp [intOf]; omega
      · rcases dp with _ | _
        · have HZ3 : Hid (zz = openSum s N.spurs (k + 1)) := Lib.hid (by rw [HZ2.out, HZ.out]; simp)
          go_wp2
          go_roundw
          case rel => exact ⟨k + 1, zz, by go_num, rfl, by omega, HZ3, by omega, by omega, HB2⟩
          case measure => simp [intOf]; omega
        · have HZ3 : Hid (zz + sw = openSum s N.spurs (k + 1)) := Lib.hid (by rw [HZ2.out, HZ.out]; simp)
          go_wp2
          go_roundw
          case rel => exact ⟨k + 1, zz + sw, by go_num, rfl, by omega, HZ3, by omega, by omega, HB2⟩
          case measure => simp [intOf]; omega
    · obtain rfl : k = N.spurs.length := by omega
      have HE := Lib.hid HZ.out
      go_wp2
      go_ret2
      exact ⟨(by rw [← HE.out] : Ending.returned (.tuple #[.int .i64 zz, .int .i64 0]) = _), hB0.out.trans (HB.out.mono (Nat.le_of_lt hsz0))⟩
end Go.Proofs.Ythfhplhdfnebhaa
namespace Go.Proofs.Ythfhplhdfnebhaa
open Go Go.RowKit Fl

/-- The open blocks are mutually reachable. -/
noncomputable def allN (N : NetD) (s : List Bool) : Bool := mutB N.next (s.take N.blocks.length)
def slotS (N : NetD) (s : List Bool) : Int := openSum s N.spurs N.spurs.length
/-- What Carries returns. -/
noncomputable def carB (N : NetD) (s : List Bool) (f : Int) : Bool := allN N s && decide (f ≤ slotS N s)
theorem Holds.front {w : World} {A : Option Addr} {xs : List Value} (h : Holds w A xs) (n : Nat) : Holds w A (xs.take n) := by
  rcases h with h | ⟨b, o, hA, hb, hc⟩
  · left; subst h; simp
  · right
    refine ⟨b, o, hA, hb, fun j hj => ?_⟩
    rw [List.length_take] at hj
    rw [hc j (by omega), List.getElem_take]
theorem mutN_c (hM : DevMutual) {Ab An As Ar B : Option Addr} {cn d : Nat} {N : NetD} {s : List Bool} {W : World} (hN : NetAt W Ab An As Ar N) (hok : NetOk N) (hs : Holds W B (s.map Bo)) (hl : N.blocks.length ≤ s.length) :
    Calls Try.prog 23 #[.slice An N.next.length cn, .slice B N.blocks.length d] W fun e w' => e = .returned (.tuple #[.bool (allN N s), .int .i64 0]) ∧ Below W.heap.size W w' := by
  have h1 : (s.take N.blocks.length).length = N.blocks.length := by rw [List.length_take]; omega
  have h2 := hs.front N.blocks.length
  rw [← List.map_take] at h2
  have h := mutual_ok hM (c := cn) (d := d) (n := N.blocks.length) hN.next h2 hok.graph hok.lanes h1
  unfold allN
  rw [← hok.lanes] at h ⊢
  exact h
set_option maxRecDepth 100000 in
set_option maxHeartbeats 8000000 in
theorem carries_c (hM : DevMutual) (Ab An As Ar B : Option Addr) (cb cn cs cr d : Nat) (N : NetD) (s : List Bool) (f : Int) (w : World) (hN : NetAt w Ab An As Ar N) (hok : NetOk N) (hcr : N.robots.length ≤ cr) (hs : Holds w B (s.map Bo)) (hsl : (s.length : Int) = cellsN N) (hd : s.length ≤ d) (hf0 : 0 ≤ f) (hf8 : f ≤ 8) :
    Calls Try.prog 11 #[.agg #[.slice Ab N.blocks.length cb, .slice An N.next.length cn, .slice As N.spurs.length cs, .slice Ar N.robots.length cr, Iv N.queue, Iv N.aging, Iv N.detours, Iv N.patience], .slice B s.length d, .int .i64 f] w fun e w' => e = .returned (.tuple #[.bool (carB N s f), .int .i64 0]) ∧ Below w.heap.size w w' := by
  have hcl : N.blocks.length ≤ s.length := by
    have h3 := slotsK_bounds (l := N.spurs) (fun s hs => by have := (hok.spurOk s hs).slots; omega) N.spurs.length (Nat.le_refl _)
    have h5 : cellsN N = N.blocks.length + slotsK N.spurs N.spurs.length := rfl
    omega
  have hbd : (N.blocks.length : Int) ≤ (d : Int) := by omega
  have CS := Lib.hid (fun W (hW : Below w.heap.size w W) => devSlots_c Ab An As Ar B cb cn cs cr d N s W (hN.keep hW) hok hcr (hs.keep hW) hsl hd)
  have CM := Lib.hid (fun W (hW : Below w.heap.size w W) => mutN_c hM (cn := cn) (d := d) (hN.keep hW) hok (hs.keep hW) hcl)
  have HCar : Hid (carB N s f = (allN N s && decide (f ≤ slotS N s))) := Lib.hid rfl
  have HSl : Hid (openSum s N.spurs N.spurs.length = slotS N s) := Lib.hid rfl
  rw [HSl.out] at CS
  have hB0 := Lib.hid ((Below.refl w.heap.size w).alloc (Nat.le_refl _) (.cells (netCells Ab An As Ar cb cn cs cr N) 29))
  have HX := Lib.hid (boxAt_of (heap_alloc_new w (.cells (netCells Ab An As Ar cb cn cs cr N) 29)))
  have hsz0 : w.heap.size < (w.alloc (.cells (netCells Ab An As Ar cb cn cs cr N) 29)).heap.size := by simp
  obtain ⟨x0, x1, x2, x3, x4, x5, x6, x7⟩ := boxAt_of (heap_alloc_new w (.cells (netCells Ab An As Ar cb cn cs cr N) 29))
  clear hN hok hsl hs hcr hcl
  rw [HCar.out]
  clear HCar HSl
  generalize slotS N s = sl at *
  generalize allN N s = al at *
  go_enter Try.func11, Try.ntmps11
  go_wp2_with fail
  generalize w.alloc (.cells (netCells Ab An As Ar cb cn cs cr N) 29) = w0 at *
  refine (CS.out _ hB0.out).mono ?_
  rintro e w1 ⟨rfl, hb1⟩
  have HB1 : Hid (Below w0.heap.size w0 w1) := Lib.hid hb1
  have HW := Lib.hid (fun W (hW : Below w1.heap.size w1 W) => HX.out.keep hsz0 (HB1.out.trans (hW.mono HB1.out.size)))
  have HBW := Lib.hid (fun W (hW : Below w1.heap.size w1 W) => hB0.out.trans ((HB1.out.trans (hW.mono HB1.out.size)).mono (Nat.le_of_lt hsz0)))
  clear x0 x1 x2 x3 x4 x5 x6 x7 hb1 CS
  obtain ⟨x0, x1, _, _, _, _, _, _⟩ := HW.out _ (Below.refl _ _)
  go_wp2_with fail
  go_region_held3 (fun W => W.cell? ⟨w.heap.size, 0, none⟩ = some (.slice Ab N.blocks.length cb) ∧ W.cell? ⟨w.heap.size, 1, none⟩ = some (.slice An N.next.length cn)) (first | exact ⟨(HW.out _ ((Below.refl _ _).drew)).c0, (HW.out _ ((Below.refl _ _).drew)).c1⟩ | exact ⟨(HW.out _ HB2.out).c0, (HW.out _ HB2.out).c1⟩) (first | (go_at_call 23; refine (CM.out _ (HBW.out _ ((Below.refl _ _).drew))).mono ?_; rintro e w2 ⟨rfl, hb2⟩; have HB2 : Hid (Below w1.heap.size w1 w2) := Lib.hid (((Below.refl w1.heap.size w1).drew).trans hb2); clear hb2))
  all_goals
    have HBf := Lib.hid (HBW.out _ HB2.out)
    clear HW HBW CM
    rcases al with _ | _
    · go_wp2
      go_ret2
      exact ⟨rfl, HBf.out⟩
    · go_wp2
      go_ret2
      exact ⟨by first | rfl | simp, HBf.out⟩
/-- What Allowed returns of block b. -/
noncomputable def mayB (N : NetD) (s : List Bool) (b : Nat) (f : Int) : Bool := carB N (s.set b true) f && !(s.getD b false)
theorem splice_all (xs ys : List Value) (h : xs.length = ys.length) : splice xs 0 ys = ys := by
  unfold splice
  simp [h]
set_option maxRecDepth 100000 in
set_option maxHeartbeats 8000000 in
theorem allowed_c (hM : DevMutual) (Ab An As Ar B : Option Addr) (cb cn cs cr d b : Nat) (N : NetD) (s : List Bool) (f : Int) (w : World) (hN : NetAt w Ab An As Ar N) (hok : NetOk N) (hcr : N.robots.length ≤ cr) (hs : Holds w B (s.map Bo)) (hsl : (s.length : Int) = cellsN N) (hb : b < N.blocks.length) (hf0 : 0 ≤ f) (hf8 : f ≤ 8) :
    Calls Try.prog 13 #[.agg #[.slice Ab N.blocks.length cb, .slice An N.next.length cn, .slice As N.spurs.length cs, .slice Ar N.robots.length cr, Iv N.queue, Iv N.aging, Iv N.detours, Iv N.patience], .slice B s.length d, .int .i64 b, .int .i64 f] w fun e w' => e = .returned (.tuple #[.bool (mayB N s b f), .int .i64 0]) ∧ Below w.heap.size w w' := by
  have hcl : N.blocks.length ≤ s.length := by
    have h3 := slotsK_bounds (l := N.spurs) (fun s hs => by have := (hok.spurOk s hs).slots; omega) N.spurs.length (Nat.le_refl _)
    have h5 : cellsN N = N.blocks.length + slotsK N.spurs N.spurs.length := rfl
    omega
  have hc48 := cellsN_le hok.few'
  have h48 : s.length ≤ 48 := by omega
  have hbs : b < s.length := by omega
  have CK := Lib.hid (fun W (hW : Below w.heap.size w W) => check_c Ab An As Ar B cb cn cs cr d N s W (hN.keep hW) hok hcr hsl)
  have CC : Hid (∀ W G, Below w.heap.size w W → W.heap[G]? = some (.cells (((s.set b true).map Bo).toArray) 4 (0, 0)) → Calls Try.prog 11 #[.agg #[.slice Ab N.blocks.length cb, .slice An N.next.length cn, .slice As N.spurs.length cs, .slice Ar N.robots.length cr, Iv N.queue, Iv N.aging, Iv N.detours, Iv N.patience], .slice (some ⟨G, 0, none⟩) s.length s.length, .int .i64 f] W fun e w' => e = .returned (.tuple #[.bool (carB N (s.set b true) f), .int .i64 0]) ∧ Below W.heap.size W w') := Lib.hid (fun W G hW hG => by
    have h := carries_c hM Ab An As Ar (some ⟨G, 0, none⟩) cb cn cs cr s.length N (s.set b true) f W (hN.keep hW) hok hcr (holds_row hG rfl) (by rw [List.length_set]; exact hsl) (by simp) hf0 hf8
    rw [List.length_set] at h
    exact h)
  obtain ⟨bS, oS, rfl, hbS, hcS⟩ := hs.at_ (by rw [List.length_map]; omega)
  have HSh : Hid (∀ W, Below w.heap.size w W → ∀ j (h : j < s.length), W.cell? ⟨bS, oS + j, none⟩ = some (Bo s[j])) := Lib.hid (fun W hW j h => by
    have e := hcS j (by rw [List.length_map]; exact h)
    rw [List.getElem_map] at e
    exact (hW.cell (p := ⟨bS, oS + j, none⟩) hbS).trans e)
  have HMay : Hid (mayB N s b f = (carB N (s.set b true) f && !s[b])) := Lib.hid (by unfold mayB; rw [List.getD_eq_getElem?_getD, List.getElem?_eq_getElem hbs]; rfl)
  have hB0 := Lib.hid ((Below.refl w.heap.size w).alloc (Nat.le_refl _) (.cells (netCells Ab An As Ar cb cn cs cr N) 29))
  have HX := Lib.hid (boxAt_of (heap_alloc_new w (.cells (netCells Ab An As Ar cb cn cs cr N) 29)))
  have hsz0 : w.heap.size < (w.alloc (.cells (netCells Ab An As Ar cb cn cs cr N) 29)).heap.size := by simp
  obtain ⟨x0, x1, x2, x3, x4, x5, x6, x7⟩ := boxAt_of (heap_alloc_new w (.cells (netCells Ab An As Ar cb cn cs cr N) 29))
  clear hN hok hsl hs hcr hcl hcS hc48
  rw [HMay.out]
  clear HMay
  generalize carB N (s.set b true) f = ca at *
  have mk := make_bools s.length (by omega)
  go_enter Try.func13, Try.ntmps13
  go_wp2_with fail
  generalize w.alloc (.cells (netCells Ab An As Ar cb cn cs cr N) 29) = w0 at *
  refine (CK.out _ hB0.out).mono ?_
  rintro e w1 ⟨rfl, hb1⟩
  have HB1 : Hid (Below w0.heap.size w0 w1) := Lib.hid hb1
  have HBw1 := Lib.hid (hB0.out.trans (hb1.mono (Nat.le_of_lt hsz0)))
  clear x0 x1 x2 x3 x4 x5 x6 x7 hb1 CK
  obtain ⟨x0, _, _, _, _, _, _, _⟩ := HX.out.keep hsz0 HB1.out
  have HBa : Hid (∀ ob, Below w.heap.size w (w1.alloc ob)) := Lib.hid (fun ob => HBw1.out.alloc HBw1.out.size ob)
  have HZ1 : Hid ((w1.alloc (.cells (madeCells #[.bool false] s.length) 4)).heap[w1.heap.size]? = some (.cells ((opens s.length).map Bo).toArray 4 (0, 0))) := Lib.hid (by
    rw [heap_alloc_new, ← made_bools])
  have hmin : (s.map Bo).length = Nat.min s.length s.length := by simp
  have hfit : 0 + (s.map Bo).length ≤ ((opens s.length).map Bo).length := by simp [opens]
  have hone : ∀ v ∈ s.map Bo, v.oneCell' = true := fun v hv => by
    obtain ⟨x, _, rfl⟩ := List.mem_map.1 hv
    rfl
  have hlo : ((opens s.length).map Bo).length = (s.map Bo).length := by simp [opens]
  have HOne := Lib.hid hone
  have HLo := Lib.hid hlo
  clear hone hlo
  have hbw2 : Below w0.heap.size w0 (w1.alloc (.cells (madeCells #[.bool false] s.length) 4)) := HB1.out.alloc HB1.out.size _
  have HB2 := Lib.hid hbw2
  have hs2 : w1.heap.size + 1 = (w1.alloc (.cells (madeCells #[.bool false] s.length) 4)).heap.size := by simp
  have HBw2 := Lib.hid (HBa.out (.cells (madeCells #[.bool false] s.length) 4))
  have hz1 : w0.heap.size ≤ w1.heap.size := HB1.out.size
  clear hbw2
  go_upto_region 7 with fail
  clear mk
  generalize w1.alloc (.cells (madeCells #[.bool false] s.length) 4) = w2 at *
  obtain ⟨G, hG⟩ : ∃ G, G = w1.heap.size := ⟨_, rfl⟩
  rw [← hG] at HZ1 hs2 hz1 ⊢
  clear hG
  clear HB1 HBw1 HBa x0
  have hcs : 0 < (s.map Bo).length → (some (⟨G, 0, none⟩ : Addr)) = some ⟨G, 0, none⟩ ∧ ∃ ad : Addr, some (⟨bS, oS, none⟩ : Addr) = some ad ∧ ∀ j v, (s.map Bo)[j]? = some v → w2.cell? (ad.add j) = some v := fun _ => by
    refine ⟨rfl, _, rfl, fun j v hv => ?_⟩
    obtain ⟨hj, hv⟩ := List.getElem?_eq_some_iff.1 hv
    rw [List.length_map] at hj
    rw [List.getElem_map] at hv
    rw [← hv, show ((⟨bS, oS, none⟩ : Addr).add j) = ⟨bS, oS + j, none⟩ by simp [Addr.add]]
    exact HSh.out _ HBw2.out j hj
  have HCs := Lib.hid hcs
  clear hcs
  go_wp2_with (refine wpList_copy_splice rfl _ _ _ _ (by rfl) 4 (by kernel_rfl) (by kernel_rfl) (some ⟨G, 0, none⟩) (some ⟨bS, oS, none⟩) s.length s.length s.length d (by rfl) (by rfl) G 0 ((opens s.length).map Bo) 4 HZ1.out (s.map Bo) hmin HCs.out hfit HOne.out G w2 (Below.refl _ _) (Nat.le_refl _) ?_)
  intro w3 hg3 hb3
  have hG3 : w3.heap[G]? = some (.cells ((s.map Bo).toArray) 4 (0, 0)) := by
    have h := hg3.out
    rw [splice_all _ _ HLo.out] at h
    exact h
  have HG4 : Hid ((w3.setCell ⟨G, b, none⟩ (.bool true)).heap[G]? = some (.cells (((s.set b true).map Bo).toArray) 4 (0, 0))) := Lib.hid (by
    rw [set1_at hG3, List.setIfInBounds_toArray, List.map_set])
  have g1 : w3.cell? ⟨G, b, none⟩ = some (Bo s[b]) := by
    rw [cell_of_row _ _ b _ _ _ hG3]
    simp [hbs]
  have g2 : w3.frozen? ⟨G, b, none⟩ = false := by simp [World.frozen?, hG3]
  have HB3 : Hid (Below w0.heap.size w0 w3) := Lib.hid (HB2.out.trans (hb3.mono hz1))
  have HB4 : Hid (Below w0.heap.size w0 (w3.setCell ⟨G, b, none⟩ (.bool true))) := Lib.hid (below_put HB3.out hz1)
  have HBw4 := Lib.hid (hB0.out.trans (HB4.out.mono (Nat.le_of_lt hsz0)))
  obtain ⟨x0, x1, x2, x3, x4, x5, x6, x7⟩ := HX.out.keep hsz0 HB3.out
  have hn1 : G ≠ w.heap.size := by omega
  have hn2 : w.heap.size ≠ G := by omega
  have CC4 := Lib.hid (CC.out _ G HBw4.out HG4.out)
  clear hG3 hg3 hb3 HB3 HB2 HCs HZ1 HOne HLo hmin hfit CC HG4 hs2
  go_wp2_with fail
  refine CC4.out.mono ?_
  rintro e w5 ⟨rfl, hb5⟩
  have HB5 := Lib.hid (HBw4.out.trans (hb5.mono HBw4.out.size))
  clear hb5 HB4 HBw4 CC4 x0 x1 x2 x3 x4 x5 x6 x7
  have v1 := HSh.out _ HB5.out b hbs
  clear HSh g1 g2
  rcases ca with _ | _
  · go_wp2
    go_ret2
    exact ⟨rfl, HB5.out⟩
  · go_wp2
    go_ret2
    exact ⟨by first | rfl | simp, HB5.out⟩
end Go.Proofs.Ythfhplhdfnebhaa
