/- Joined texts. -/
import Derived.Test.YtmdnkpiihhaoeaaMzBC
import Derived.Deep.RegionHeld3
import Derived.Test.YtmdnkpiihhaoeaaMzAD
import Derived.Test.YtmdnkpiihhaoeaaMzAE
import Derived.Test.YtmdnkpiihhaoeaaMzAB
import Derived.IntWalk
namespace Go.Proofs.Ytmdnkpiihhaoeaa
open Go Go.RowKit Fl

/-- What validBlocks asks: the blocks, their lanes and their names. -/
def BlocksD (N : NetD) : Prop := GridOk N ∧ ∀ b ∈ N.blocks, name b.name = true
theorem BlocksD.of {N : NetD} (h1 : 1 ≤ N.blocks.length ∧ N.blocks.length ≤ 24) (h2 : N.next.length = N.blocks.length) (h : ∀ i (h : i < N.blocks.length) (h' : i < N.next.length), name N.blocks[i].name = true ∧ PlaceFit N.blocks[i] ∧ RowFit N.blocks.length i N.next[i]) : BlocksD N :=
  ⟨GridOk.of h1 h2 (fun i hi hi' => (h i hi hi').2), fun b hb => by obtain ⟨i, hi, rfl⟩ := List.mem_iff_getElem.1 hb; exact (h i hi (by omega)).1⟩
theorem BlocksD.at_ {N : NetD} (h : BlocksD N) {i : Nat} (hi : i < N.blocks.length) (hi' : i < N.next.length) : name N.blocks[i].name = true ∧ PlaceFit N.blocks[i] ∧ RowFit N.blocks.length i N.next[i] :=
  ⟨h.2 _ (List.getElem_mem hi), h.1.places _ (List.getElem_mem hi), h.1.rows i hi'⟩
set_option maxRecDepth 100000 in
set_option maxHeartbeats 8000000 in
theorem devBlocksX_c (Ab An As Ar : Option Addr) (cb cn cs cr : Nat) (N : NetD) (w : World) (hN : NetAt w Ab An As Ar N) (hl : NetLen N) :
    Calls Try.prog 80 #[.agg #[.slice Ab N.blocks.length cb, .slice An N.next.length cn, .slice As N.spurs.length cs, .slice Ar N.robots.length cr, Iv N.queue, Iv N.aging, Iv N.detours, Iv N.patience]] w (Exact (BlocksD N) w) := by
  have HN := Lib.hid hN
  have HLn := Lib.hid hl
  obtain ⟨zc, hzc⟩ := flag (1 ≤ N.blocks.length ∧ N.blocks.length ≤ 24)
  have C1 := Lib.hid (fun W => betw_z (N.blocks.length : Int) 1 24 zc W (hzc.trans ⟨fun h => by omega, fun h => by omega⟩))
  have HZC := Lib.hid hzc
  have hB0 := Lib.hid ((Below.refl w.heap.size w).alloc (Nat.le_refl _) (.cells (netCells Ab An As Ar cb cn cs cr N) 29))
  have HX := Lib.hid (boxAt_of (heap_alloc_new w (.cells (netCells Ab An As Ar cb cn cs cr N) 29)))
  have hsz0 : w.heap.size < (w.alloc (.cells (netCells Ab An As Ar cb cn cs cr N) 29)).heap.size := by simp
  obtain ⟨x0, x1, _, _, _, _, _, _⟩ := boxAt_of (heap_alloc_new w (.cells (netCells Ab An As Ar cb cn cs cr N) 29))
  clear hN hl hzc
  go_enter Try.func80, Try.ntmps80
  go_wp2_with fail
  generalize w.alloc (.cells (netCells Ab An As Ar cb cn cs cr N) 29) = w0 at *
  refine (C1.out _).mono ?_
  rintro e w1 ⟨rfl, rfl⟩
  rcases zc with _ | _
  · have HB : Hid (¬ BlocksD N) := Lib.hid (fun h => Bool.false_ne_true (HZC.out.2 h.1.size))
    go_wp2
    go_ret
    exact .no HB.out hB0.out
  have HSz := Lib.hid (HZC.out.1 rfl)
  clear HZC C1
  by_cases hlen : N.next.length = N.blocks.length
  rotate_left
  · have hne : ((N.next.length : Int) != (N.blocks.length : Int)) = true := by rw [bne_iff_ne]; omega
    have HB : Hid (¬ BlocksD N) := Lib.hid (fun h => hlen h.1.lanes)
    clear hlen
    go_wp2
    go_ret
    exact .no HB.out hB0.out
  have hne : ((N.next.length : Int) != (N.blocks.length : Int)) = false := by rw [hlen]; simp
  have HL := Lib.hid hlen
  obtain ⟨h1, h2⟩ := HSz.out
  clear hlen
  go_wp2
  go_loopw [22] (fun i wr => ∃ (k : Nat), i = .int .i64 k ∧ k ≤ N.blocks.length ∧ Hid (∀ i (h : i < N.blocks.length) (h' : i < N.next.length), i < k → name N.blocks[i].name = true ∧ PlaceFit N.blocks[i] ∧ RowFit N.blocks.length i N.next[i]) ∧ Hid (Below w0.heap.size w0 wr)) (fun i _ => N.blocks.length - (intOf i).toNat)
  case atStart => exact ⟨0, rfl, Nat.zero_le _, Lib.hid (fun i h h' hj => by omega), Lib.hid (Below.refl _ _)⟩
  case round =>
    clear x0 x1
    obtain ⟨k, rfl, hk, HF, HB⟩ := hrel
    by_cases hlt : k < N.blocks.length
    · have hltn : k < N.next.length := by have := HL.out; omega
      obtain ⟨x0, x1, _, _, _, _, _, _⟩ := HX.out.keep hsz0 HB.out
      have hbw : Below w.heap.size w wr := hB0.out.trans (HB.out.mono (Nat.le_of_lt hsz0))
      obtain ⟨bb, ob, rfl, hbb, hs⟩ := HN.out.blocks.block hlt
      obtain ⟨c0, c1, c2⟩ := hs.keep hbb hbw
      have hnl : N.blocks[k].name.length ≤ maxLen := HLn.out.named _ (List.mem_append_left _ (List.mem_map.2 ⟨_, List.getElem_mem hlt, rfl⟩))
      obtain ⟨bn, on, A1, cc1, rfl, e1, hr⟩ := HN.out.next.one hltn
      have hbn : bn < w.heap.size := World.block_lt_of_cell? _ _ e1
      have hrl := HLn.out.rows _ (List.getElem_mem hltn)
      obtain ⟨z4, hz4⟩ := flag (RowFit N.blocks.length k N.next[k])
      have CV : Hid (∀ W, Below w.heap.size w W → Calls Try.prog 91 #[.slice A1 N.next[k].length cc1, .int .i64 k, .int .i64 (N.blocks.length : Int)] W fun e w' => e = .returned (.bool z4) ∧ W = w') := Lib.hid (fun W hW => nextX_c A1 cc1 k N.blocks.length N.next[k] z4 W (hr.keep hW) hrl hz4)
      have HZ4 := Lib.hid hz4
      have HW : Hid (∀ W, Below w0.heap.size w0 W → W.cell? ⟨w.heap.size, 0, none⟩ = some (.slice (some ⟨bb, ob, none⟩) N.blocks.length cb) ∧ W.cell? ⟨w.heap.size, 1, none⟩ = some (.slice (some ⟨bn, on, none⟩) N.next.length cn) ∧ W.cell? ⟨bn, on + k, none⟩ = some (.slice A1 N.next[k].length cc1)) := Lib.hid (fun W hW => ⟨(HX.out.keep hsz0 hW).c0, (HX.out.keep hsz0 hW).c1, ((hB0.out.trans (hW.mono (Nat.le_of_lt hsz0))).cell (p := ⟨bn, on + k, none⟩) hbn).trans e1⟩)
      have HBa : Hid (∀ ob, Below w0.heap.size w0 ((wr.alloc ob).drew)) := Lib.hid (fun ob => (HB.out.alloc HB.out.size ob).drew)
      have HBb : Hid (∀ ob, Below w.heap.size w (wr.alloc ob)) := Lib.hid (fun ob => hbw.alloc hbw.size ob)
      have HBad : Hid (¬ (name N.blocks[k].name = true ∧ PlaceFit N.blocks[k] ∧ RowFit N.blocks.length k N.next[k]) → ¬ BlocksD N) := Lib.hid (fun h hg => h (hg.at_ hlt hltn))
      have HGood : Hid (name N.blocks[k].name = true ∧ PlaceFit N.blocks[k] ∧ RowFit N.blocks.length k N.next[k] → ∀ i (h : i < N.blocks.length) (h' : i < N.next.length), i < k + 1 → name N.blocks[i].name = true ∧ PlaceFit N.blocks[i] ∧ RowFit N.blocks.length i N.next[i]) := Lib.hid (fun hf i h h' hj => by
        rcases Nat.lt_succ_iff_lt_or_eq.1 hj with h2 | rfl
        · exact HF.out i h h' h2
        · exact hf)
      clear hs hr e1 HB hbw HF hz4 hrl
      generalize N.next[k] = r at *
      generalize N.blocks[k] = x at *
      obtain ⟨nm, xx, yy⟩ := x
      simp only at c0 c1 c2 hnl
      obtain ⟨z2, hz2⟩ := flag (-9999 ≤ xx ∧ xx ≤ 9999)
      obtain ⟨z3, hz3⟩ := flag (-9999 ≤ yy ∧ yy ≤ 9999)
      obtain ⟨z1, hz1⟩ : ∃ z, name nm = z := ⟨_, rfl⟩
      have CN := Lib.hid (fun W => Name_c nm W hnl)
      rw [hz1] at CN
      have CX := Lib.hid (fun W => betw_z xx (-9999) 9999 z2 W hz2)
      have CY := Lib.hid (fun W => betw_z yy (-9999) 9999 z3 W hz3)
      have HZ1 := Lib.hid hz1
      have HZ2 := Lib.hid hz2
      have HZ3 := Lib.hid hz3
      clear hnl hz1 hz2 hz3
      go_wp2_with fail
      refine (CN.out _).mono ?_
      rintro e w2 ⟨rfl, rfl⟩
      rcases z1 with _ | _
      · have HB : Hid (¬ BlocksD N) := Lib.hid (HBad.out (fun h => by have := h.1; rw [HZ1.out] at this; cases this))
        clear HBad HGood HZ2 HZ3 HZ4
        go_wp2
        go_ret
        exact .no HB.out (HBb.out _)
      have HOk1 := Lib.hid HZ1.out
      go_wp2_with fail
      refine (CX.out _).mono ?_
      rintro e w2 ⟨rfl, rfl⟩
      rcases z2 with _ | _
      · have HB : Hid (¬ BlocksD N) := Lib.hid (HBad.out (fun h => Bool.false_ne_true (HZ2.out.2 h.2.1.x)))
        clear HBad HGood HZ1 HZ3 HZ4
        go_wp2
        go_ret
        exact .no HB.out (HBb.out _)
      have HOk2 := Lib.hid (HZ2.out.1 rfl)
      clear HZ1 HZ2
      go_wp2_with fail
      refine (CY.out _).mono ?_
      rintro e w2 ⟨rfl, rfl⟩
      rcases z3 with _ | _
      · have HB : Hid (¬ BlocksD N) := Lib.hid (HBad.out (fun h => Bool.false_ne_true (HZ3.out.2 h.2.1.y)))
        clear HBad HGood HZ4
        go_wp2
        go_ret
        exact .no HB.out (HBb.out _)
      have HOk3 := Lib.hid (HZ3.out.1 rfl)
      clear HZ3
      rcases z4 with _ | _
      · have HB : Hid (¬ BlocksD N) := Lib.hid (HBad.out (fun h => Bool.false_ne_true (HZ4.out.2 h.2.2)))
        clear HBad HGood HZ4
        go_wp2_with fail
        go_region_held3 (fun W => W.cell? ⟨w.heap.size, 0, none⟩ = some (.slice (some ⟨bb, ob, none⟩) N.blocks.length cb) ∧ W.cell? ⟨w.heap.size, 1, none⟩ = some (.slice (some ⟨bn, on, none⟩) N.next.length cn) ∧ W.cell? ⟨bn, on + k, none⟩ = some (.slice A1 r.length cc1)) (first | exact HW.out _ (HBa.out _)) (first | (go_at_call 91; refine (CV.out _ (hB0.out.trans ((HBa.out _).mono (Nat.le_of_lt hsz0)))).mono ?_; rintro e w3 ⟨rfl, rfl⟩))
        go_wp2
        go_ret
        exact .no HB.out (hB0.out.trans ((HBa.out _).mono (Nat.le_of_lt hsz0)))
      · have HF2 := Lib.hid (HGood.out ⟨HOk1.out, ⟨HOk2.out, HOk3.out⟩, HZ4.out.1 rfl⟩)
        clear HBad HGood HZ4 HOk1 HOk2 HOk3
        go_wp2_with fail
        go_region_held3 (fun W => W.cell? ⟨w.heap.size, 0, none⟩ = some (.slice (some ⟨bb, ob, none⟩) N.blocks.length cb) ∧ W.cell? ⟨w.heap.size, 1, none⟩ = some (.slice (some ⟨bn, on, none⟩) N.next.length cn) ∧ W.cell? ⟨bn, on + k, none⟩ = some (.slice A1 r.length cc1)) (first | exact HW.out _ (HBa.out _)) (first | (go_at_call 91; refine (CV.out _ (hB0.out.trans ((HBa.out _).mono (Nat.le_of_lt hsz0)))).mono ?_; rintro e w3 ⟨rfl, rfl⟩))
        go_wp2
        go_roundw
        case rel => exact ⟨k + 1, by go_num, by omega, HF2, Lib.hid (HBa.out _)⟩
        case measure => simp [intOf]; omega
    · obtain rfl : k = N.blocks.length := by omega
      have HG : Hid (BlocksD N) := Lib.hid (BlocksD.of HSz.out HL.out (fun i h h' => HF.out i h h' h))
      go_wp2
      go_ret
      exact .yes HG.out (hB0.out.trans (HB.out.mono (Nat.le_of_lt hsz0)))
/-- What validSpurs asks: the spurs, a depot and the spurs' names. -/
def SpursD (N : NetD) : Prop := SpursOk N ∧ (∃ s ∈ N.spurs, s.depot = true) ∧ ∀ s ∈ N.spurs, name s.name = true
theorem SpursD.at_ {N : NetD} (h : SpursD N) {k : Nat} (hk : k < N.spurs.length) : name N.spurs[k].name = true ∧ SpurFit N.blocks.length N.spurs k N.spurs[k] :=
  ⟨h.2.2 _ (List.getElem_mem hk), h.1.each k hk⟩
set_option maxRecDepth 100000 in
set_option maxHeartbeats 8000000 in
theorem devSpursX_c (Ab An As Ar : Option Addr) (cb cn cs cr : Nat) (N : NetD) (w : World) (hN : NetAt w Ab An As Ar N) (hl : NetLen N) (h1 : 1 ≤ N.blocks.length) (h2 : N.blocks.length ≤ 24) :
    Calls Try.prog 81 #[.agg #[.slice Ab N.blocks.length cb, .slice An N.next.length cn, .slice As N.spurs.length cs, .slice Ar N.robots.length cr, Iv N.queue, Iv N.aging, Iv N.detours, Iv N.patience]] w (Exact (SpursD N) w) := by
  have HS := Lib.hid hN.spurs
  have HLn := Lib.hid hl
  have hB0 := Lib.hid ((Below.refl w.heap.size w).alloc (Nat.le_refl _) (.cells (netCells Ab An As Ar cb cn cs cr N) 29))
  have CD := Lib.hid (fun W (hW : Below w.heap.size w W) (h6 : N.spurs.length ≤ 6) => hasDepotX_c As cs N.spurs W (hN.spurs.keep hW) (by omega))
  have HX := Lib.hid (boxAt_of (heap_alloc_new w (.cells (netCells Ab An As Ar cb cn cs cr N) 29)))
  have hsz0 : w.heap.size < (w.alloc (.cells (netCells Ab An As Ar cb cn cs cr N) 29)).heap.size := by simp
  obtain ⟨x0, _, x2, _, _, _, _, _⟩ := boxAt_of (heap_alloc_new w (.cells (netCells Ab An As Ar cb cn cs cr N) 29))
  clear hN hl
  by_cases h6 : N.spurs.length ≤ 6
  rotate_left
  · have HB : Hid (¬ SpursD N) := Lib.hid (fun h => h6 h.1.few)
    have h6i : (6 : Int) < (N.spurs.length : Int) := by omega
    go_enter Try.func81, Try.ntmps81
    go_wp2
    go_ret
    exact .no HB.out hB0.out
  have h6i : ¬ (6 : Int) < (N.spurs.length : Int) := by omega
  go_enter Try.func81, Try.ntmps81
  go_wp2_with fail
  generalize w.alloc (.cells (netCells Ab An As Ar cb cn cs cr N) 29) = w0 at *
  refine (CD.out _ hB0.out h6).mono ?_
  intro e w1 hE
  obtain ⟨hE, hb1⟩ := hE.use
  have HB1 : Hid (Below w0.heap.size w0 w1) := Lib.hid hb1
  clear x0 x2 hb1 CD
  obtain ⟨x0, _, x2, _, _, _, _, _⟩ := HX.out.keep hsz0 HB1.out
  obtain ⟨hd, rfl⟩ | ⟨hd, rfl⟩ := hE
  rotate_left
  · have HB : Hid (¬ SpursD N) := Lib.hid (fun h => hd h.2.1)
    clear hd
    go_wp2
    go_ret
    exact .no HB.out (hB0.out.trans (HB1.out.mono (Nat.le_of_lt hsz0)))
  have HD := Lib.hid hd
  clear hd
  have hlw : IntKind.i64.wrap ((N.blocks.length : Int) - 1) = (N.blocks.length : Int) - 1 := IntWalk.i64_in _ (by omega)
  go_wp2
  go_loopw [4, 27] (fun z i wr => ∃ (k : Nat) (zz : Int), i = .int .i64 k ∧ z = .int .i64 zz ∧ k ≤ N.spurs.length ∧ Hid (zz = N.blocks.length + slotsK N.spurs k) ∧ 0 ≤ zz ∧ zz ≤ 24 + 4 * k ∧ Hid (∀ j (h : j < N.spurs.length), j < k → name N.spurs[j].name = true ∧ SpurFit N.blocks.length N.spurs j N.spurs[j]) ∧ Hid (Below w0.heap.size w0 wr)) (fun _ i _ => N.spurs.length - (intOf i).toNat)
  case atStart => exact ⟨0, N.blocks.length, rfl, rfl, Nat.zero_le _, Lib.hid (by simp [slotsK]), by omega, by omega, Lib.hid (fun j h hj => by omega), HB1⟩
  case round =>
    clear x0 x2
    obtain ⟨k, zz, rfl, rfl, hk, HZ, hz0, hz1, HF, HB⟩ := hrel
    by_cases hlt : k < N.spurs.length
    · have hbw : Below w.heap.size w wr := hB0.out.trans (HB.out.mono (Nat.le_of_lt hsz0))
      obtain ⟨bb, ob, rfl, hbb, hs⟩ := HS.out.spur hlt
      obtain ⟨c0, c1, c2, c3, c4, c5⟩ := hs.keep hbb hbw
      have hnl : N.spurs[k].name.length ≤ maxLen := HLn.out.named _ (List.mem_append_right _ (List.mem_map.2 ⟨_, List.getElem_mem hlt, rfl⟩))
      have HZ2 := Lib.hid (slotsK_succ hlt)
      have HBa : Hid (∀ ob, Below w0.heap.size w0 (wr.alloc ob)) := Lib.hid (fun ob => HB.out.alloc HB.out.size ob)
      have HBb : Hid (∀ ob, Below w.heap.size w (wr.alloc ob)) := Lib.hid (fun ob => hbw.alloc hbw.size ob)
      have HBad : Hid (¬ (name N.spurs[k].name = true ∧ SpurFit N.blocks.length N.spurs k N.spurs[k]) → ¬ SpursD N) := Lib.hid (fun h hg => h (hg.at_ hlt))
      have HGood : Hid (name N.spurs[k].name = true ∧ SpurFit N.blocks.length N.spurs k N.spurs[k] → ∀ j (h : j < N.spurs.length), j < k + 1 → name N.spurs[j].name = true ∧ SpurFit N.blocks.length N.spurs j N.spurs[j]) := Lib.hid (fun hf j h hj => by
        rcases Nat.lt_succ_iff_lt_or_eq.1 hj with h2 | rfl
        · exact HF.out j h h2
        · exact hf)
      clear hs HB hbw HF
      generalize N.spurs[k] = s at *
      obtain ⟨nm, dp, si, so, sw, sb⟩ := s
      simp only at c0 c1 c2 c3 c4 c5 hnl HZ2
      obtain ⟨z1, hz1⟩ : ∃ z, name nm = z := ⟨_, rfl⟩
      obtain ⟨z2, hz2⟩ := flag (0 ≤ si ∧ si ≤ (N.blocks.length : Int) - 1)
      obtain ⟨z3, hz3⟩ := flag (0 ≤ so ∧ so ≤ (N.blocks.length : Int) - 1)
      obtain ⟨z4, hz4⟩ := flag (1 ≤ sw ∧ sw ≤ 4)
      have CN := Lib.hid (fun W => Name_c nm W hnl)
      rw [hz1] at CN
      have CI := Lib.hid (fun W => betw_z si 0 ((N.blocks.length : Int) - 1) z2 W hz2)
      have CO := Lib.hid (fun W => betw_z so 0 ((N.blocks.length : Int) - 1) z3 W hz3)
      have CW := Lib.hid (fun W => betw_z sw 1 4 z4 W hz4)
      have HZ1 := Lib.hid hz1
      have HQ2 := Lib.hid hz2
      have HQ3 := Lib.hid hz3
      have HQ4 := Lib.hid hz4
      clear hnl hz1 hz2 hz3 hz4
      go_wp2_with fail
      refine (CN.out _).mono ?_
      rintro e w2 ⟨rfl, rfl⟩
      rcases z1 with _ | _
      · have HB : Hid (¬ SpursD N) := Lib.hid (HBad.out (fun h => by have := h.1; rw [HZ1.out] at this; cases this))
        clear HBad HGood HQ2 HQ3 HQ4
        go_wp2
        go_ret
        exact .no HB.out (HBb.out _)
      have HOk1 := Lib.hid HZ1.out
      clear HZ1
      go_wp2_with fail
      refine (CI.out _).mono ?_
      rintro e w2 ⟨rfl, rfl⟩
      rcases z2 with _ | _
      · have HB : Hid (¬ SpursD N) := Lib.hid (HBad.out (fun h => Bool.false_ne_true (HQ2.out.2 (by have := h.2.inn; simp only at this; omega))))
        clear HBad HGood HQ2 HQ3 HQ4
        go_wp2
        go_ret
        exact .no HB.out (HBb.out _)
      have HOk2 := Lib.hid (HQ2.out.1 rfl)
      clear HQ2
      go_wp2_with fail
      refine (CO.out _).mono ?_
      rintro e w2 ⟨rfl, rfl⟩
      rcases z3 with _ | _
      · have HB : Hid (¬ SpursD N) := Lib.hid (HBad.out (fun h => Bool.false_ne_true (HQ3.out.2 (by have := h.2.out; simp only at this; omega))))
        clear HBad HGood HQ3 HQ4
        go_wp2
        go_ret
        exact .no HB.out (HBb.out _)
      have HOk3 := Lib.hid (HQ3.out.1 rfl)
      clear HQ3
      go_wp2_with fail
      refine (CW.out _).mono ?_
      rintro e w2 ⟨rfl, rfl⟩
      rcases z4 with _ | _
      · have HB : Hid (¬ SpursD N) := Lib.hid (HBad.out (fun h => Bool.false_ne_true (HQ4.out.2 h.2.slots)))
        clear HBad HGood HQ4
        go_wp2
        go_ret
        exact .no HB.out (HBb.out _)
      have hsw4 := HQ4.out.1 rfl
      clear HQ4
      by_cases hbs : sb = zz
      · subst hbs
        have hbne : (sb != sb) = false := by simp
        have HZ3 : Hid (sb + sw = N.blocks.length + slotsK N.spurs (k + 1)) := Lib.hid (by rw [HZ2.out, HZ.out]; omega)
        have hsw : IntKind.i64.wrap (sb + sw) = sb + sw := IntWalk.i64_in _ (by omega)
        have HF2 := Lib.hid (HGood.out ⟨HOk1.out, ⟨by have := HOk2.out; simp only; omega, by have := HOk3.out; simp only; omega, hsw4, HZ.out⟩⟩)
        clear HBad HGood HZ HZ2 HOk2 HOk3
        go_wp2
        go_roundw
        case rel => exact ⟨k + 1, sb + sw, by go_num, rfl, by omega, HZ3, by omega, by omega, HF2, Lib.hid (HBa.out _)⟩
        case measure => simp [intOf]; omega
      · have hbne : (sb != zz) = true := by simpa using hbs
        have HB : Hid (¬ SpursD N) := Lib.hid (HBad.out (fun h => hbs (by have := h.2.base; simp only at this; rw [this, HZ.out])))
        clear HBad HGood HZ HZ2 hbs
        go_wp2
        go_ret
        exact .no HB.out (HBb.out _)
    · obtain rfl : k = N.spurs.length := by omega
      have HG : Hid (SpursD N) := Lib.hid ⟨⟨h6, fun j h => (HF.out j h h).2⟩, HD.out, fun s hs => by obtain ⟨j, hj, rfl⟩ := List.mem_iff_getElem.1 hs; exact (HF.out j hj hj).1⟩
      go_wp2
      go_ret
      exact .yes HG.out (hB0.out.trans (HB.out.mono (Nat.le_of_lt hsz0)))
end Go.Proofs.Ytmdnkpiihhaoeaa
namespace Go.Proofs.Ytmdnkpiihhaoeaa
open Go Go.RowKit Fl

theorem name_le12 {s : List UInt8} (h : name s = true) : s.length ≤ 12 := by
  have h' := h
  unfold name at h'
  simp at h'
  omega
/-- The map's keys are the first i names; it counts those that differ. -/
def KeysOf (L : List (List UInt8)) (i : Nat) (D : DataW Unit) : Prop := Maps.size D ≤ i ∧ (Maps.size D = i ↔ (L.take i).Nodup) ∧ ∀ s, Maps.has D (.string s) = true ↔ s ∈ L.take i
theorem KeysOf.zero (L : List (List UInt8)) : KeysOf L 0 (.map []) := ⟨Nat.le_refl _, ⟨fun _ => List.nodup_nil, fun _ => rfl⟩, fun s => ⟨fun h => absurd h (by simp [Maps.has]), fun h => absurd h (by simp)⟩⟩
theorem KeysOf.step {L : List (List UInt8)} {i : Nat} {D : DataW Unit} (hi : i < L.length) (ht : Maps.Tidy D) (h : KeysOf L i D) (d : DataW Unit) : KeysOf L (i + 1) (D.put (.string L[i]) d) := by
  obtain ⟨h1, h2, h3⟩ := h
  have hsz := Maps.size_put ht (k := .string L[i]) d
  have hT : L.take (i + 1) = L.take i ++ [L[i]] := List.take_succ_eq_append_getElem hi
  have hnd : (L.take (i + 1)).Nodup ↔ (L.take i).Nodup ∧ L[i] ∉ L.take i := by
    rw [hT, List.nodup_append]
    constructor
    · rintro ⟨a, _, c⟩
      exact ⟨a, fun hm => c _ hm _ (by simp) rfl⟩
    · rintro ⟨a, b⟩
      exact ⟨a, by simp, fun x hx y hy => by rw [List.mem_singleton] at hy; subst hy; exact fun e => b (e ▸ hx)⟩
  refine ⟨?_, ?_, fun s => ?_⟩
  · rw [hsz]
    split <;> omega
  · rw [hsz, hnd]
    by_cases hm : L[i] ∈ L.take i
    · rw [if_pos ((h3 _).2 hm)]
      exact ⟨fun e => by omega, fun ⟨_, e⟩ => absurd hm e⟩
    · rw [if_neg (fun e => hm ((h3 _).1 e)), ← h2]
      exact ⟨fun e => ⟨by omega, hm⟩, fun ⟨e, _⟩ => by omega⟩
  · rw [hT, List.mem_append, List.mem_singleton]
    by_cases hs : s = L[i]
    · subst hs
      exact ⟨fun _ => .inr rfl, fun _ => Maps.has_put_same (k := .string L[i]) ht.isMap (by unfold WideAt.IsKeyLit; trivial) d⟩
    · rw [Maps.has_put_other (fun e => hs (by injection e)), h3 s]
      exact ⟨.inl, fun h => h.elim id (fun e => absurd e hs)⟩
set_option maxRecDepth 100000 in
set_option maxHeartbeats 8000000 in
theorem distinctX_c (Ab An As Ar : Option Addr) (cb cn cs cr : Nat) (N : NetD) (w : World) (hN : NetAt w Ab An As Ar N) (h24 : N.blocks.length ≤ 24) (h6 : N.spurs.length ≤ 6) (hnm : ∀ s ∈ namesN N, name s = true) :
    Calls Try.prog 82 #[.agg #[.slice Ab N.blocks.length cb, .slice An N.next.length cn, .slice As N.spurs.length cs, .slice Ar N.robots.length cr, Iv N.queue, Iv N.aging, Iv N.detours, Iv N.patience]] w (Exact ((namesN N).Nodup) w) := by
  have HBl := Lib.hid hN.blocks
  have HSp := Lib.hid hN.spurs
  have HNl := Lib.hid (names_len2 N)
  have HSh : Hid (∀ s ∈ namesN N, s.length ≤ 12) := Lib.hid (fun s hs => name_le12 (hnm s hs))
  have hb0 : Below w.heap.size w ((w.alloc (.cells (netCells Ab An As Ar cb cn cs cr N) 29)).alloc (.map #[] 0)) := ((Below.refl _ _).alloc (Nat.le_refl _) _).alloc (by simp) _
  have HB0 := Lib.hid hb0
  have s1 : (w.alloc (.cells (netCells Ab An As Ar cb cn cs cr N) 29)).heap.size = w.heap.size + 1 := by simp
  have HX0 : Hid (((w.alloc (.cells (netCells Ab An As Ar cb cn cs cr N) 29)).alloc (.map #[] 0)).heap[w.heap.size]? = some (.cells (netCells Ab An As Ar cb cn cs cr N) 29 (0, 0))) := Lib.hid ((Below.heap_alloc _ _ _ (by rw [s1]; omega)).trans (heap_alloc_new w _))
  have HM0 : Hid (MapB ((w.alloc (.cells (netCells Ab An As Ar cb cn cs cr N) 29)).alloc (.map #[] 0)) (w.heap.size + 1) 0 (.map [])) := Lib.hid (by
    have h := World.ownsMap_made (w.alloc (.cells (netCells Ab An As Ar cb cn cs cr N) 29)) Try.prog 9 (plainElem (H := Unit) Try.prog 4)
    rw [s1] at h
    exact h)
  obtain ⟨x0, _, x2, _⟩ := boxAt_of HX0.out
  clear hN hb0 s1 hnm
  have hmm := @run_makeMap Try.prog
  go_enter Try.func82, Try.ntmps82
  go_wp2
  go_loopw [12] (fun i wr => ∃ (k : Nat) (D : DataW Unit), i = .int .i64 k ∧ k ≤ N.blocks.length ∧ Hid (KeysOf (namesN N) k D) ∧ Hid (MapB wr (w.heap.size + 1) k D) ∧ Hid (Below w.heap.size w wr) ∧ Hid (wr.heap[w.heap.size]? = some (.cells (netCells Ab An As Ar cb cn cs cr N) 29 (0, 0)))) (fun i _ => N.blocks.length - (intOf i).toNat)
  case atStart => exact ⟨0, .map [], rfl, Nat.zero_le _, Lib.hid (KeysOf.zero _), HM0, HB0, HX0⟩
  case round =>
    clear HM0 HB0 HX0
    obtain ⟨k, D, rfl, hk, HK, HM, HB, HX⟩ := hrel
    by_cases hlt : k < N.blocks.length
    · obtain ⟨b, o, rfl, hbl, hs⟩ := HBl.out.block hlt
      obtain ⟨c0, c1, c2⟩ := hs.keep hbl HB.out
      obtain ⟨hl, he⟩ := names_block (N := N) hlt
      have HK2 := Lib.hid (HK.out.step hl (HM.out.tidy str_keyed) (.lit (.bool true)))
      have hsh := HSh.out _ (List.getElem_mem hl)
      rw [he] at HK2 hsh
      have hbz := HB.out.size
      clear hs he hl HK
      generalize N.blocks[k] = s at *
      obtain ⟨nm, xx, yy⟩ := s
      simp only at c0 c1 c2 HK2 hsh
      have HMa : Hid (∀ ob, MapB (wr.alloc ob) (w.heap.size + 1) k D) := Lib.hid (fun ob => HM.out.alloc ob)
      have hkey := Lib.hid (key_str nm hsh)
      go_wp2_with (at_mapUpdate; refine wpList_mapUpdate_own _ rfl _ _ _ 132 rfl 9 4 str_keyed Try.underlying132 (plainElem Try.prog 4) (w.heap.size + 1) k D rfl (HMa.out _) (by unfold maxLen; omega) _ _ (.string nm) rfl rfl hkey.out (.lit (.bool true)) [] val_true ?_)
      intro w1 hown hgrow
      have HM1 := Lib.hid hown
      have HB1 : Hid (Below w.heap.size w w1) := Lib.hid ((HB.out.alloc hbz _).grown hgrow (by simp; omega) (fun j hj => by injection hj with hj; omega))
      have HX1 : Hid (w1.heap[w.heap.size]? = some (.cells (netCells _ _ _ _ _ _ _ _ N) 29 (0, 0))) := Lib.hid ((hgrow.block _ (by simp; omega) (fun e => by injection e with e; omega)).trans ((Below.heap_alloc _ _ _ (by have := block_lt HX.out; omega)).trans HX.out))
      clear hown hgrow HM HB HX HMa
      go_wp2
      go_roundw
      case rel => exact ⟨k + 1, _, by go_num, by omega, HK2, HM1, HB1, HX1⟩
      case measure => simp [intOf]; omega
    · obtain rfl : k = N.blocks.length := by omega
      clear hlt hk
      obtain ⟨x0, _, x2, _⟩ := boxAt_of HX.out
      go_wp2
      go_loopw [23] (fun i wr => ∃ (k : Nat) (D : DataW Unit), i = .int .i64 k ∧ k ≤ N.spurs.length ∧ Hid (KeysOf (namesN N) (N.blocks.length + k) D) ∧ Hid (MapB wr (w.heap.size + 1) (N.blocks.length + k) D) ∧ Hid (Below w.heap.size w wr) ∧ Hid (wr.heap[w.heap.size]? = some (.cells (netCells Ab An As Ar cb cn cs cr N) 29 (0, 0)))) (fun i _ => N.spurs.length - (intOf i).toNat)
      case atStart => exact ⟨0, D, rfl, Nat.zero_le _, HK, HM, HB, HX⟩
      case round =>
        clear HM HB HX HK x0 x2
        clear D
        obtain ⟨k, D, rfl, hk, HK, HM, HB, HX⟩ := hrel
        by_cases hlt : k < N.spurs.length
        · obtain ⟨b, o, rfl, hbl, hs⟩ := HSp.out.spur hlt
          obtain ⟨c0, c1, c2, c3, c4, c5⟩ := hs.keep hbl HB.out
          obtain ⟨hl, he⟩ := names_spur (N := N) hlt
          have HK2 := Lib.hid (HK.out.step hl (HM.out.tidy str_keyed) (.lit (.bool true)))
          have hsh := HSh.out _ (List.getElem_mem hl)
          rw [he] at HK2 hsh
          have hbz := HB.out.size
          clear hs he hl HK
          generalize N.spurs[k] = s at *
          obtain ⟨nm, dp, si, so, sw, sb⟩ := s
          simp only at c0 c1 c2 c3 c4 c5 HK2 hsh
          have HMa : Hid (∀ ob, MapB (wr.alloc ob) (w.heap.size + 1) (N.blocks.length + k) D) := Lib.hid (fun ob => HM.out.alloc ob)
          have hkey := Lib.hid (key_str nm hsh)
          go_wp2_with (at_mapUpdate; refine wpList_mapUpdate_own _ rfl _ _ _ 132 rfl 9 4 str_keyed Try.underlying132 (plainElem Try.prog 4) (w.heap.size + 1) (N.blocks.length + k) D rfl (HMa.out _) (by unfold maxLen; omega) _ _ (.string nm) rfl rfl hkey.out (.lit (.bool true)) [] val_true ?_)
          intro w1 hown hgrow
          have HM1 := Lib.hid hown
          have HB1 : Hid (Below w.heap.size w w1) := Lib.hid ((HB.out.alloc hbz _).grown hgrow (by simp; omega) (fun j hj => by injection hj with hj; omega))
          have HX1 : Hid (w1.heap[w.heap.size]? = some (.cells (netCells _ _ _ _ _ _ _ _ N) 29 (0, 0))) := Lib.hid ((hgrow.block _ (by simp; omega) (fun e => by injection e with e; omega)).trans ((Below.heap_alloc _ _ _ (by have := block_lt HX.out; omega)).trans HX.out))
          clear hown hgrow HM HB HX HMa
          go_wp2
          go_roundw
          case rel => exact ⟨k + 1, _, by go_num, by omega, HK2, HM1, HB1, HX1⟩
          case measure => simp [intOf]; omega
        · obtain rfl : k = N.spurs.length := by omega
          clear hlt hk
          obtain ⟨x0, _, x2, _⟩ := boxAt_of HX.out
          have HP : Hid (Maps.size D = N.blocks.length + N.spurs.length ↔ (namesN N).Nodup) := Lib.hid (by
            have h := HK.out.2.1
            rw [← HNl.out, List.take_of_length_le (Nat.le_refl _)] at h
            rw [← HNl.out]; exact h)
          have hww : IntKind.i64.wrap ((N.blocks.length : Int) + (N.spurs.length : Int)) = (N.blocks.length : Int) + (N.spurs.length : Int) := IntWalk.i64_in _ (by omega)
          go_wp2_with (at_len; refine wpList_len_own _ rfl _ 132 rfl 9 4 Try.underlying132 (plainElem Try.prog 4) (w.heap.size + 1) _ D rfl HM.out ?_)
          go_ret
          exact .is (by rw [← HP.out]; simp; omega) HB.out
end Go.Proofs.Ytmdnkpiihhaoeaa
namespace Go.Proofs.Ytmdnkpiihhaoeaa
open Go Go.RowKit Fl

set_option maxRecDepth 100000 in
set_option maxHeartbeats 4000000 in
theorem depotOfX_c (Ab An As Ar : Option Addr) (cb cn cs cr : Nat) (N : NetD) (x : Int) (w : World) (hN : NetAt w Ab An As Ar N) (h6 : N.spurs.length ≤ 6) (hb : ∀ s ∈ N.spurs, (0 ≤ s.slots ∧ s.slots ≤ 4) ∧ 0 ≤ s.base ∧ s.base ≤ 100) :
    Calls Try.prog 93 #[.agg #[.slice Ab N.blocks.length cb, .slice An N.next.length cn, .slice As N.spurs.length cs, .slice Ar N.robots.length cr, Iv N.queue, Iv N.aging, Iv N.detours, Iv N.patience], .int .i64 x] w fun e w' => (∃ (nm : List UInt8) (k : Int) (b : Bool), e = .returned (.tuple #[Sv nm, .int .i64 k, .bool b]) ∧ (b = true ↔ inDepot N.spurs x)) ∧ Below w.heap.size w w' := by
  have HS := Lib.hid hN.spurs
  have HB := Lib.hid hb
  have hB0 := Lib.hid ((Below.refl w.heap.size w).alloc (Nat.le_refl _) (.cells (netCells Ab An As Ar cb cn cs cr N) 29))
  obtain ⟨_, _, y2, _⟩ := boxAt_of (heap_alloc_new w (.cells (netCells Ab An As Ar cb cn cs cr N) 29))
  clear hN hb
  go_enter Try.func93, Try.ntmps93
  go_wp2
  generalize w.alloc (.cells (netCells Ab An As Ar cb cn cs cr N) 29) = w0 at *
  go_loopw [12] (fun i wr => ∃ (j : Nat), i = .int .i64 j ∧ j ≤ N.spurs.length ∧ Hid (¬ HeldTo N.spurs x j) ∧ Hid (Below w.heap.size w wr)) (fun i _ => N.spurs.length - (intOf i).toNat)
  case atStart => exact ⟨0, rfl, Nat.zero_le _, Lib.hid HeldTo.zero, hB0⟩
  case round =>
    obtain ⟨j, rfl, hj, HK, HBw⟩ := hrel
    by_cases hjl : j < N.spurs.length
    · obtain ⟨b, o, rfl, hbl, hs⟩ := HS.out.spur hjl
      obtain ⟨c0, c1, c2, c3, c4, c5⟩ := hs.keep hbl HBw.out
      have HBa : Hid (∀ ob, Below w.heap.size w (wr.alloc ob)) := Lib.hid (fun ob => HBw.out.alloc HBw.out.size ob)
      obtain ⟨⟨s1, s2⟩, s3, s4⟩ := HB.out _ (List.getElem_mem hjl)
      have HNot : Hid (¬ holdsR N.spurs[j] x → ¬ HeldTo N.spurs x (j + 1)) := Lib.hid (fun h h2 => ((HeldTo.succ hjl).1 h2).elim HK.out h)
      have HYes : Hid (holdsR N.spurs[j] x → inDepot N.spurs x) := Lib.hid (fun h => ⟨_, List.getElem_mem hjl, h⟩)
      clear hs HK
      generalize N.spurs[j] = s at *
      obtain ⟨nm, dp, si, so, sw, sb⟩ := s
      simp only at c0 c1 c2 c3 c4 c5 s1 s2 s3 s4
      have hw1 : IntKind.i64.wrap (sb + sw) = sb + sw := IntWalk.i64_in _ (by omega)
      have hw2 : IntKind.i64.wrap (sb + sw - 1) = sb + sw - 1 := IntWalk.i64_in _ (by omega)
      rcases dp with _ | _
      · have HN2 := Lib.hid (HNot.out (fun h => Bool.false_ne_true h.1))
        clear HNot HYes
        go_wp2
        go_roundw
        case rel => exact ⟨j + 1, by go_num, by omega, HN2, Lib.hid (HBa.out _)⟩
        case measure => simp [intOf]; omega
      · by_cases hz : sb ≤ x ∧ x ≤ sb + sw - 1
        · have HY : Hid (inDepot N.spurs x) := Lib.hid (HYes.out ⟨rfl, hz.1, by simp only; omega⟩)
          have CB := Lib.hid (fun W => between_t x sb (sb + sw - 1) W hz.1 hz.2)
          have hw3 : IntKind.i64.wrap (x - sb) = x - sb := IntWalk.i64_in _ (by omega)
          have hw4 : IntKind.i64.wrap (x - sb + 1) = x - sb + 1 := IntWalk.i64_in _ (by omega)
          clear HNot HYes hz
          go_wp2_with fail
          refine (CB.out _).mono ?_
          rintro e w1 ⟨rfl, rfl⟩
          go_wp2_with fail
          go_quiet (fail)
          go_wp2
          go_ret3
          exact ⟨⟨_, _, true, rfl, ⟨fun _ => HY.out, fun _ => rfl⟩⟩, below_drewN (HBa.out _) _⟩
        · have CB := Lib.hid (fun W => between_f x sb (sb + sw - 1) W hz)
          have HN2 := Lib.hid (HNot.out (fun h => hz ⟨h.2.1, by have := h.2.2; simp only at this; omega⟩))
          clear HNot HYes hz
          go_wp2_with fail
          refine (CB.out _).mono ?_
          rintro e w1 ⟨rfl, rfl⟩
          go_wp2
          go_roundw
          case rel => exact ⟨j + 1, by go_num, by omega, HN2, Lib.hid (HBa.out _)⟩
          case measure => simp [intOf]; omega
    · obtain rfl : j = N.spurs.length := by omega
      have HNo : Hid (¬ inDepot N.spurs x) := Lib.hid (fun h => HK.out (HeldTo.all.2 h))
      go_wp2
      go_ret3
      exact ⟨⟨[], 0, false, rfl, ⟨fun h => absurd h Bool.false_ne_true, fun h => absurd h HNo.out⟩⟩, HBw.out⟩
set_option maxRecDepth 100000 in
set_option maxHeartbeats 8000000 in
theorem devRobotsX_c (Ab An As Ar : Option Addr) (cb cn cs cr : Nat) (N : NetD) (w : World) (hN : NetAt w Ab An As Ar N) (hs : SpursOk N) (h24 : N.blocks.length ≤ 24) (hcr : N.robots.length ≤ cr) :
    Calls Try.prog 83 #[.agg #[.slice Ab N.blocks.length cb, .slice An N.next.length cn, .slice As N.spurs.length cs, .slice Ar N.robots.length cr, Iv N.queue, Iv N.aging, Iv N.detours, Iv N.patience]] w (Exact (RobOk N) w) := by
  have HR := Lib.hid hN.robots
  have hB0 := Lib.hid ((Below.refl w.heap.size w).alloc (Nat.le_refl _) (.cells (netCells Ab An As Ar cb cn cs cr N) 29))
  have hbs : ∀ s ∈ N.spurs, (0 ≤ s.slots ∧ s.slots ≤ 4) ∧ 0 ≤ s.base ∧ s.base ≤ 100 := fun s hm => by
    obtain ⟨k, hk, rfl⟩ := List.mem_iff_getElem.1 hm
    have h1 := (hs.each k hk).slots
    have h2 := (hs.each k hk).base
    have h3 := slotsK_bounds (l := N.spurs) (fun s hm => by obtain ⟨j, hj, rfl⟩ := List.mem_iff_getElem.1 hm; have := (hs.each j hj).slots; omega) k (by omega)
    have h5 := hs.few
    omega
  have CD := Lib.hid (fun W x (hW : Below w.heap.size w W) => depotOfX_c Ab An As Ar cb cn cs cr N x W (hN.keep hW) hs.few hbs)
  have HX := Lib.hid (boxAt_of (heap_alloc_new w (.cells (netCells Ab An As Ar cb cn cs cr N) 29)))
  have hsz0 : w.heap.size < (w.alloc (.cells (netCells Ab An As Ar cb cn cs cr N) 29)).heap.size := by simp
  obtain ⟨_, _, _, x3, _, _, _, _⟩ := boxAt_of (heap_alloc_new w (.cells (netCells Ab An As Ar cb cn cs cr N) 29))
  clear hN hbs hs
  by_cases h8 : N.robots.length ≤ 8
  rotate_left
  · have HB : Hid (¬ RobOk N) := Lib.hid (fun h => h8 h.few)
    have h8i : (8 : Int) < (N.robots.length : Int) := by omega
    go_enter Try.func83, Try.ntmps83
    go_wp2
    go_ret
    exact .no HB.out hB0.out
  have h8i : ¬ (8 : Int) < (N.robots.length : Int) := by omega
  go_enter Try.func83, Try.ntmps83
  go_wp2
  generalize w.alloc (.cells (netCells Ab An As Ar cb cn cs cr N) 29) = w0 at *
  go_loopw [15] (fun i wr => ∃ (k : Nat), i = .int .i64 k ∧ k ≤ N.robots.length ∧ Hid (PreRobs N k) ∧ Hid (Below w0.heap.size w0 wr)) (fun i _ => N.robots.length - (intOf i).toNat)
  case atStart => exact ⟨0, rfl, Nat.zero_le _, Lib.hid (PreRobs.zero _), Lib.hid (Below.refl _ _)⟩
  case round =>
    clear x3
    obtain ⟨k, rfl, hk, HP, HB⟩ := hrel
    by_cases hlt : k < N.robots.length
    · have hbw : Below w.heap.size w wr := hB0.out.trans (HB.out.mono (Nat.le_of_lt hsz0))
      obtain ⟨x0, x1, x2, x3, x4, x5, x6, x7⟩ := HX.out.keep hsz0 HB.out
      obtain ⟨b, o, hA, e1⟩ := (HR.out.keep hbw).iv hlt
      have CD2 := Lib.hid (CD.out wr N.robots[k] hbw)
      have HSt : Hid (inDepot N.spurs N.robots[k] → N.robots[k] ∉ N.robots.take k → PreRobs N (k + 1)) := Lib.hid (HP.out.step hlt)
      have HNo : Hid (¬ (inDepot N.spurs N.robots[k] ∧ N.robots[k] ∉ N.robots.take k) → ¬ RobOk N) := Lib.hid (fun h h2 => h (h2.at_ hlt))
      have CQ := Lib.hid (fun W (hW : Below w.heap.size w W) => cont_q Ar cr k N.robots N.robots[k] W (HR.out.keep hW) hk (by omega))
      have HXW := Lib.hid (fun W (hW : Below wr.heap.size wr W) => (HX.out.keep hsz0 (HB.out.trans (hW.mono HB.out.size))).c3)
      have HBW := Lib.hid (fun W (hW : Below wr.heap.size wr W) => HB.out.trans (hW.mono HB.out.size))
      subst hA
      clear hbw HB CD HP
      generalize N.robots[k] = x at *
      go_wp2_with fail
      refine CD2.out.mono ?_
      rintro e w2 ⟨⟨nm, kk, bb, rfl, hbb⟩, hb2⟩
      have x3b := HXW.out _ hb2
      have HB2 := Lib.hid (HBW.out _ hb2)
      have hbw2 : Below w.heap.size w w2 := hB0.out.trans (HB2.out.mono (Nat.le_of_lt hsz0))
      have HBw2 := Lib.hid hbw2
      have CQ2 := Lib.hid (CQ.out w2 hbw2)
      have HBb := Lib.hid hbb
      have hkc : k ≤ cr := by omega
      clear hb2 hbw2 CQ CD2 HXW HBW x0 x1 x2 x3 x4 x5 x6 x7 e1 hbb
      rcases bb with _ | _
      · have HBad : Hid (¬ RobOk N) := Lib.hid (HNo.out (fun h => Bool.false_ne_true (HBb.out.2 h.1)))
        clear HNo HSt HBb CQ2
        go_wp2
        go_ret
        exact .no HBad.out HBw2.out
      · have HIn := Lib.hid (HBb.out.1 rfl)
        by_cases hmem : x ∈ N.robots.take k
        · have HBad : Hid (¬ RobOk N) := Lib.hid (HNo.out (fun h => h.2 hmem))
          rw [decide_eq_true hmem] at CQ2
          clear HNo HSt HBb hmem
          go_wp2_with fail
          refine CQ2.out.mono ?_
          rintro e w3 ⟨rfl, rfl⟩
          go_wp2
          go_ret
          exact .no HBad.out HBw2.out
        · have HP2 := Lib.hid (HSt.out HIn.out hmem)
          rw [decide_eq_false hmem] at CQ2
          clear HNo HSt HBb hmem
          go_wp2_with fail
          refine CQ2.out.mono ?_
          rintro e w3 ⟨rfl, rfl⟩
          go_wp2
          go_roundw
          case rel => exact ⟨k + 1, by go_num, by omega, HP2, HB2⟩
          case measure => simp [intOf]; omega
    · obtain rfl : k = N.robots.length := by omega
      have HG := Lib.hid (HP.out.all h8)
      go_wp2
      go_ret
      exact .yes HG.out (hB0.out.trans (HB.out.mono (Nat.le_of_lt hsz0)))
theorem netOk_dev (N : NetD) : NetOk N ↔ BlocksD N ∧ SpursD N ∧ (namesN N).Nodup ∧ RobOk N ∧ ConfOk N.queue N.aging N.detours N.patience := by
  rw [netOk_iff]
  constructor
  · rintro ⟨h1, h2, h3, h4, h5, h6, h7⟩
    exact ⟨⟨h1, fun b hb => h4 _ (List.mem_append_left _ (List.mem_map.2 ⟨b, hb, rfl⟩))⟩, ⟨h2, h3, fun s hs => h4 _ (List.mem_append_right _ (List.mem_map.2 ⟨s, hs, rfl⟩))⟩, h5, h6, h7⟩
  · rintro ⟨⟨h1, a1⟩, ⟨h2, h3, a2⟩, h5, h6, h7⟩
    refine ⟨h1, h2, h3, fun s hs => ?_, h5, h6, h7⟩
    rcases List.mem_append.1 hs with h | h
    · obtain ⟨b, hb, rfl⟩ := List.mem_map.1 h
      exact a1 b hb
    · obtain ⟨b, hb, rfl⟩ := List.mem_map.1 h
      exact a2 b hb
set_option maxRecDepth 100000 in
set_option maxHeartbeats 8000000 in
theorem netValidX_c (Ab An As Ar : Option Addr) (cb cn cs cr : Nat) (N : NetD) (w : World) (hN : NetAt w Ab An As Ar N) (hl : NetLen N) (hcr : N.robots.length ≤ cr) :
    Calls Try.prog 67 #[.agg #[.slice Ab N.blocks.length cb, .slice An N.next.length cn, .slice As N.spurs.length cs, .slice Ar N.robots.length cr, Iv N.queue, Iv N.aging, Iv N.detours, Iv N.patience]] w (Exact (NetOk N) w) := by
  have HIff := Lib.hid (netOk_dev N)
  have C1 := Lib.hid (fun W (hW : Below w.heap.size w W) => devBlocksX_c Ab An As Ar cb cn cs cr N W (hN.keep hW) hl)
  have C2 := Lib.hid (fun W (hW : Below w.heap.size w W) (hb : BlocksD N) => devSpursX_c Ab An As Ar cb cn cs cr N W (hN.keep hW) hl hb.1.size.1 hb.1.size.2)
  have C3 := Lib.hid (fun W (hW : Below w.heap.size w W) (hb : BlocksD N) (hs : SpursD N) => distinctX_c Ab An As Ar cb cn cs cr N W (hN.keep hW) hb.1.size.2 hs.1.few (fun s h => by
    rcases List.mem_append.1 h with h | h
    · obtain ⟨b, hb', rfl⟩ := List.mem_map.1 h
      exact hb.2 b hb'
    · obtain ⟨b, hb', rfl⟩ := List.mem_map.1 h
      exact hs.2.2 b hb'))
  have C4 := Lib.hid (fun W (hW : Below w.heap.size w W) (hb : BlocksD N) (hs : SpursD N) => devRobotsX_c Ab An As Ar cb cn cs cr N W (hN.keep hW) hs.1 hb.1.size.2 hcr)
  have C5 := Lib.hid (fun W => devConfigX_c N.queue N.aging N.detours N.patience W)
  have hB0 := Lib.hid ((Below.refl w.heap.size w).alloc (Nat.le_refl _) (.cells (netCells Ab An As Ar cb cn cs cr N) 29))
  have HX := Lib.hid (boxAt_of (heap_alloc_new w (.cells (netCells Ab An As Ar cb cn cs cr N) 29)))
  have hsz0 : w.heap.size < (w.alloc (.cells (netCells Ab An As Ar cb cn cs cr N) 29)).heap.size := by simp
  obtain ⟨x0, x1, x2, x3, x4, x5, x6, x7⟩ := boxAt_of (heap_alloc_new w (.cells (netCells Ab An As Ar cb cn cs cr N) 29))
  clear hN hl
  go_enter Try.func67, Try.ntmps67
  go_wp2_with fail
  generalize w.alloc (.cells (netCells Ab An As Ar cb cn cs cr N) 29) = w0 at *
  refine (C1.out _ hB0.out).mono ?_
  intro e w1 hE
  obtain ⟨hE, hb1⟩ := hE.use
  have HB1 : Hid (Below w0.heap.size w0 w1) := Lib.hid hb1
  clear x0 x1 x2 x3 x4 x5 x6 x7 hb1
  obtain ⟨x0, x1, x2, x3, x4, x5, x6, x7⟩ := HX.out.keep hsz0 HB1.out
  obtain ⟨hg, rfl⟩ | ⟨hg, rfl⟩ := hE
  rotate_left
  · have HB : Hid (¬ NetOk N) := Lib.hid (fun h => hg (HIff.out.1 h).1)
    clear hg
    go_wp2
    go_ret
    exact .no HB.out (hB0.out.trans (HB1.out.mono (Nat.le_of_lt hsz0)))
  have G1 := Lib.hid hg
  clear hg
  go_wp2_with fail
  refine (C2.out _ (hB0.out.trans (HB1.out.mono (Nat.le_of_lt hsz0))) G1.out).mono ?_
  intro e w2 hE
  obtain ⟨hE, hb2⟩ := hE.use
  have HB2 : Hid (Below w0.heap.size w0 w2) := Lib.hid (HB1.out.trans (hb2.mono HB1.out.size))
  clear x0 x1 x2 x3 x4 x5 x6 x7 hb2 HB1
  obtain ⟨x0, x1, x2, x3, x4, x5, x6, x7⟩ := HX.out.keep hsz0 HB2.out
  obtain ⟨hg, rfl⟩ | ⟨hg, rfl⟩ := hE
  rotate_left
  · have HB : Hid (¬ NetOk N) := Lib.hid (fun h => hg (HIff.out.1 h).2.1)
    clear hg
    go_wp2
    go_ret
    exact .no HB.out (hB0.out.trans (HB2.out.mono (Nat.le_of_lt hsz0)))
  have G2 := Lib.hid hg
  clear hg
  go_wp2_with fail
  refine (C3.out _ (hB0.out.trans (HB2.out.mono (Nat.le_of_lt hsz0))) G1.out G2.out).mono ?_
  intro e w3 hE
  obtain ⟨hE, hb3⟩ := hE.use
  have HB3 : Hid (Below w0.heap.size w0 w3) := Lib.hid (HB2.out.trans (hb3.mono HB2.out.size))
  clear x0 x1 x2 x3 x4 x5 x6 x7 hb3 HB2
  obtain ⟨x0, x1, x2, x3, x4, x5, x6, x7⟩ := HX.out.keep hsz0 HB3.out
  obtain ⟨hg, rfl⟩ | ⟨hg, rfl⟩ := hE
  rotate_left
  · have HB : Hid (¬ NetOk N) := Lib.hid (fun h => hg (HIff.out.1 h).2.2.1)
    clear hg
    go_wp2
    go_ret
    exact .no HB.out (hB0.out.trans (HB3.out.mono (Nat.le_of_lt hsz0)))
  have G3 := Lib.hid hg
  clear hg
  go_wp2_with fail
  refine (C4.out _ (hB0.out.trans (HB3.out.mono (Nat.le_of_lt hsz0))) G1.out G2.out).mono ?_
  intro e w4 hE
  obtain ⟨hE, hb4⟩ := hE.use
  have HB4 : Hid (Below w0.heap.size w0 w4) := Lib.hid (HB3.out.trans (hb4.mono HB3.out.size))
  clear x0 x1 x2 x3 x4 x5 x6 x7 hb4 HB3
  obtain ⟨x0, x1, x2, x3, x4, x5, x6, x7⟩ := HX.out.keep hsz0 HB4.out
  obtain ⟨hg, rfl⟩ | ⟨hg, rfl⟩ := hE
  rotate_left
  · have HB : Hid (¬ NetOk N) := Lib.hid (fun h => hg (HIff.out.1 h).2.2.2.1)
    clear hg
    go_wp2
    go_ret
    exact .no HB.out (hB0.out.trans (HB4.out.mono (Nat.le_of_lt hsz0)))
  have G4 := Lib.hid hg
  clear hg
  go_wp2_with fail
  refine (C5.out _).mono ?_
  intro e w5 hE
  obtain ⟨hE, hb5⟩ := hE.use
  have HB5 : Hid (Below w0.heap.size w0 w5) := Lib.hid (HB4.out.trans (hb5.mono HB4.out.size))
  clear hb5
  obtain ⟨hg, rfl⟩ | ⟨hg, rfl⟩ := hE
  · have HG : Hid (NetOk N) := Lib.hid (HIff.out.2 ⟨G1.out, G2.out, G3.out, G4.out, hg⟩)
    clear hg
    go_wp2
    go_ret
    exact .yes HG.out (hB0.out.trans (HB5.out.mono (Nat.le_of_lt hsz0)))
  · have HB : Hid (¬ NetOk N) := Lib.hid (fun h => hg (HIff.out.1 h).2.2.2.2)
    clear hg
    go_wp2
    go_ret
    exact .no HB.out (hB0.out.trans (HB5.out.mono (Nat.le_of_lt hsz0)))
end Go.Proofs.Ytmdnkpiihhaoeaa
