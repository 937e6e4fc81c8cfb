/- Joined texts. -/
import Derived.Test.YtjbhmeeebacnpaaMzAX
import Derived.Deep.RegionHeld3
import Derived.Test.YtjbhmeeebacnpaaMzAD
import Derived.Test.YtjbhmeeebacnpaaMzAE
import Derived.Test.YtjbhmeeebacnpaaMzAC
import Derived.IntWalk
namespace Go.Proofs.Ytjbhmeeebacnpaa
open Go Go.RowKit Fl

/-- What validBlocks asks: the blocks, their lanes and their names. -/
def BlocksD (N : NetD) : Prop := GridOk N ∧ ∀ b ∈ N.blocks, name b.name = true
theorem BlocksD.of {N : NetD} (h1 : 1 ≤ N.blocks.length ∧ N.blocks.length ≤ 24) (h2 : N.next.length = N.blocks.length) (h : ∀ i (h : i < N.blocks.length) (h' : i < N.next.length), name N.blocks[i].name = true ∧ PlaceFit N.blocks[i] ∧ RowFit N.blocks.length i N.next[i]) : BlocksD N :=
  ⟨GridOk.of h1 h2 (fun i hi hi' => (h i hi hi').2), fun b hb => by obtain ⟨i, hi, rfl⟩ := List.mem_iff_getElem.1 hb; exact (h i hi (by omega)).1⟩
theorem BlocksD.at_ {N : NetD} (h : BlocksD N) {i : Nat} (hi : i < N.blocks.length) (hi' : i < N.next.length) : name N.blocks[i].name = true ∧ PlaceFit N.blocks[i] ∧ RowFit N.blocks.length i N.next[i] :=
  ⟨h.2 _ (List.getElem_mem hi), h.1.places _ (List.getElem_mem hi), h.1.rows i hi'⟩
set_option maxRecDepth 100000 in
set_option maxHeartbeats 8000000 in
theorem devBlocksX_c (Ab An As Ar : Option Addr) (cb cn cs cr : Nat) (N : NetD) (w : World) (hN : NetAt w Ab An As Ar N) (hl : NetLen N) :
    Calls Try.prog 75 #[.agg #[.slice Ab N.blocks.length cb, .slice An N.next.length cn, .slice As N.spurs.length cs, .slice Ar N.robots.length cr, Iv N.queue, Iv N.aging, Iv N.detours, Iv N.patience]] w (Exact (BlocksD N) w) := by
  have HN := Lib.hid hN
  have HLn := Lib.hid hl
  obtain ⟨zc, hzc⟩ := flag (1 ≤ N.blocks.length ∧ N.blocks.length ≤ 24)
  have C1 := Lib.hid (fun W => betw_z (N.blocks.length : Int) 1 24 zc W (hzc.trans ⟨fun h => by omega, fun h => by omega⟩))
  have HZC := Lib.hid hzc
  have hB0 := Lib.hid ((Below.refl w.heap.size w).alloc (Nat.le_refl _) (.cells (netCells Ab An As Ar cb cn cs cr N) 29))
  have HX := Lib.hid (boxAt_of (heap_alloc_new w (.cells (netCells Ab An As Ar cb cn cs cr N) 29)))
  have hsz0 : w.heap.size < (w.alloc (.cells (netCells Ab An As Ar cb cn cs cr N) 29)).heap.size := by simp
  obtain ⟨x0, x1, _, _, _, _, _, _⟩ := boxAt_of (heap_alloc_new w (.cells (netCells Ab An As Ar cb cn cs cr N) 29))
  clear hN hl hzc
  go_enter Try.func75, Try.ntmps75
  go_wp2_with fail
  generalize w.alloc (.cells (netCells Ab An As Ar cb cn cs cr N) 29) = w0 at *
  refine (C1.out _).mono ?_
  rintro e w1 ⟨rfl, rfl⟩
  rcases zc with _ | _
  · have HB : Hid (¬ BlocksD N) := Lib.hid (fun h => Bool.false_ne_true (HZC.out.2 h.1.size))
    go_wp2
    go_ret
    exact .no HB.out hB0.out
  have HSz := Lib.hid (HZC.out.1 rfl)
  clear HZC C1
  by_cases hlen : N.next.length = N.blocks.length
  rotate_left
  · have hne : ((N.next.length : Int) != (N.blocks.length : Int)) = true := by rw [bne_iff_ne]; omega
    have HB : Hid (¬ BlocksD N) := Lib.hid (fun h => hlen h.1.lanes)
    clear hlen
    go_wp2
    go_ret
    exact .no HB.out hB0.out
  have hne : ((N.next.length : Int) != (N.blocks.length : Int)) = false := by rw [hlen]; simp
  have HL := Lib.hid hlen
  obtain ⟨h1, h2⟩ := HSz.out
  clear hlen
  go_wp2
  go_loopw [22] (fun i wr => ∃ (k : Nat), i = .int .i64 k ∧ k ≤ N.blocks.length ∧ Hid (∀ i (h : i < N.blocks.length) (h' : i < N.next.length), i < k → name N.blocks[i].name = true ∧ PlaceFit N.blocks[i] ∧ RowFit N.blocks.length i N.next[i]) ∧ Hid (Below w0.heap.size w0 wr)) (fun i _ => N.blocks.length - (intOf i).toNat)
  case atStart => exact ⟨0, rfl, Nat.zero_le _, Lib.hid (fun i h h' hj => by omega), Lib.hid (Below.refl _ _)⟩
  case round =>
    clear x0 x1
    obtain ⟨k, rfl, hk, HF, HB⟩ := hrel
    by_cases hlt : k < N.blocks.length
    · have hltn : k < N.next.length := by have := HL.out; omega
      obtain ⟨x0, x1, _, _, _, _, _, _⟩ := HX.out.keep hsz0 HB.out
      have hbw : Below w.heap.size w wr := hB0.out.trans (HB.out.mono (Nat.le_of_lt hsz0))
      obtain ⟨bb, ob, rfl, hbb, hs⟩ := HN.out.blocks.block hlt
      obtain ⟨c0, c1, c2⟩ := hs.keep hbb hbw
      have hnl : N.blocks[k].name.length ≤ maxLen := HLn.out.named _ (List.mem_append_left _ (List.mem_map.2 ⟨_, List.getElem_mem hlt, rfl⟩))
      obtain ⟨bn, on, A1, cc1, rfl, e1, hr⟩ := HN.out.next.one hltn
      have hbn : bn < w.heap.size := World.block_lt_of_cell? _ _ e1
      have hrl := HLn.out.rows _ (List.getElem_mem hltn)
      obtain ⟨z4, hz4⟩ := flag (RowFit N.blocks.length k N.next[k])
      have CV : Hid (∀ W, Below w.heap.size w W → Calls Try.prog 86 #[.slice A1 N.next[k].length cc1, .int .i64 k, .int .i64 (N.blocks.length : Int)] W fun e w' => e = .returned (.bool z4) ∧ W = w') := Lib.hid (fun W hW => nextX_c A1 cc1 k N.blocks.length N.next[k] z4 W (hr.keep hW) hrl hz4)
      have HZ4 := Lib.hid hz4
      have HW : Hid (∀ W, Below w0.heap.size w0 W → W.cell? ⟨w.heap.size, 0, none⟩ = some (.slice (some ⟨bb, ob, none⟩) N.blocks.length cb) ∧ W.cell? ⟨w.heap.size, 1, none⟩ = some (.slice (some ⟨bn, on, none⟩) N.next.length cn) ∧ W.cell? ⟨bn, on + k, none⟩ = some (.slice A1 N.next[k].length cc1)) := Lib.hid (fun W hW => ⟨(HX.out.keep hsz0 hW).c0, (HX.out.keep hsz0 hW).c1, ((hB0.out.trans (hW.mono (Nat.le_of_lt hsz0))).cell (p := ⟨bn, on + k, none⟩) hbn).trans e1⟩)
      have HBa : Hid (∀ ob, Below w0.heap.size w0 ((wr.alloc ob).drew)) := Lib.hid (fun ob => (HB.out.alloc HB.out.size ob).drew)
      have HBb : Hid (∀ ob, Below w.heap.size w (wr.alloc ob)) := Lib.hid (fun ob => hbw.alloc hbw.size ob)
      have HBad : Hid (¬ (name N.blocks[k].name = true ∧ PlaceFit N.blocks[k] ∧ RowFit N.blocks.length k N.next[k]) → ¬ BlocksD N) := Lib.hid (fun h hg => h (hg.at_ hlt hltn))
      have HGood : Hid (name N.blocks[k].name = true ∧ PlaceFit N.blocks[k] ∧ RowFit N.blocks.length k N.next[k] → ∀ i (h : i < N.blocks.length) (h' : i < N.next.length), i < k + 1 → name N.blocks[i].name = true ∧ PlaceFit N.blocks[i] ∧ RowFit N.blocks.length i N.next[i]) := Lib.hid (fun hf i h h' hj => by
        rcases Nat.lt_succ_iff_lt_or_eq.1 hj with h2 | rfl
        · exact HF.out i h h' h2
        · exact hf)
      clear hs hr e1 HB hbw HF hz4 hrl
      generalize N.next[k] = r at *
      generalize N.blocks[k] = x at *
      obtain ⟨nm, xx, yy⟩ := x
      simp only at c0 c1 c2 hnl
      obtain ⟨z2, hz2⟩ := flag (-9999 ≤ xx ∧ xx ≤ 9999)
      obtain ⟨z3, hz3⟩ := flag (-9999 ≤ yy ∧ yy ≤ 9999)
      obtain ⟨z1, hz1⟩ : ∃ z, name nm = z := ⟨_, rfl⟩
      have CN := Lib.hid (fun W => Name_c nm W hnl)
      rw [hz1] at CN
      have CX := Lib.hid (fun W => betw_z xx (-9999) 9999 z2 W hz2)
      have CY := Lib.hid (fun W => betw_z yy (-9999) 9999 z3 W hz3)
      have HZ1 := Lib.hid hz1
      have HZ2 := Lib.hid hz2
      have HZ3 := Lib.hid hz3
      clear hnl hz1 hz2 hz3
      go_wp2_with fail
      refine (CN.out _).mono ?_
      rintro e w2 ⟨rfl, rfl⟩
      rcases z1 with _ | _
      · have HB : Hid (¬ BlocksD N) := Lib.hid (HBad.out (fun h => by have := h.1; rw [HZ1.out] at this; cases this))
        clear HBad HGood HZ2 HZ3 HZ4
        go_wp2
        go_ret
        exact .no HB.out (HBb.out _)
      have HOk1 := Lib.hid HZ1.out
      go_wp2_with fail
      refine (CX.out _).mono ?_
      rintro e w2 ⟨rfl, rfl⟩
      rcases z2 with _ | _
      · have HB : Hid (¬ BlocksD N) := Lib.hid (HBad.out (fun h => Bool.false_ne_true (HZ2.out.2 h.2.1.x)))
        clear HBad HGood HZ1 HZ3 HZ4
        go_wp2
        go_ret
        exact .no HB.out (HBb.out _)
      have HOk2 := Lib.hid (HZ2.out.1 rfl)
      clear HZ1 HZ2
      go_wp2_with fail
      refine (CY.out _).mono ?_
      rintro e w2 ⟨rfl, rfl⟩
      rcases z3 with _ | _
      · have HB : Hid (¬ BlocksD N) := Lib.hid (HBad.out (fun h => Bool.false_ne_true (HZ3.out.2 h.2.1.y)))
        clear HBad HGood HZ4
        go_wp2
        go_ret
        exact .no HB.out (HBb.out _)
      have HOk3 := Lib.hid (HZ3.out.1 rfl)
      clear HZ3
      rcases z4 with _ | _
      · have HB : Hid (¬ BlocksD N) := Lib.hid (HBad.out (fun h => Bool.false_ne_true (HZ4.out.2 h.2.2)))
        clear HBad HGood HZ4
        go_wp2_with fail
        go_region_held3 (fun W => W.cell? ⟨w.heap.size, 0, none⟩ = some (.slice (some ⟨bb, ob, none⟩) N.blocks.length cb) ∧ W.cell? ⟨w.heap.size, 1, none⟩ = some (.slice (some ⟨bn, on, none⟩) N.next.length cn) ∧ W.cell? ⟨bn, on + k, none⟩ = some (.slice A1 r.length cc1)) (first | exact HW.out _ (HBa.out _)) (first | (go_at_call 86; refine (CV.out _ (hB0.out.trans ((HBa.out _).mono (Nat.le_of_lt hsz0)))).mono ?_; rintro e w3 ⟨rfl, rfl⟩))
        go_wp2
        go_ret
        exact .no HB.out (hB0.out.trans ((HBa.out _).mono (Nat.le_of_lt hsz0)))
      · have HF2 := Lib.hid (HGood.out ⟨HOk1.out, ⟨HOk2.out, HOk3.out⟩, HZ4.out.1 rfl⟩)
        clear HBad HGood HZ4 HOk1 HOk2 HOk3
        go_wp2_with fail
        go_region_held3 (fun W => W.cell? ⟨w.heap.size, 0, none⟩ = some (.slice (some ⟨bb, ob, none⟩) N.blocks.length cb) ∧ W.cell? ⟨w.heap.size, 1, none⟩ = some (.slice (some ⟨bn, on, none⟩) N.next.length cn) ∧ W.cell? ⟨bn, on + k, none⟩ = some (.slice A1 r.length cc1)) (first | exact HW.out _ (HBa.out _)) (first | (go_at_call 86; refine (CV.out _ (hB0.out.trans ((HBa.out _).mono (Nat.le_of_lt hsz0)))).mono ?_; rintro e w3 ⟨rfl, rfl⟩))
        go_wp2
        go_roundw
        case rel => exact ⟨k + 1, by go_num, by omega, HF2, Lib.hid (HBa.out _)⟩
        case measure => simp [intOf]; omega
    · obtain rfl : k = N.blocks.length := by omega
      have HG : Hid (BlocksD N) := Lib.hid (BlocksD.of HSz.out HL.out (fun i h h' => HF.out i h h' h))
      go_wp2
      go_ret
      exact .yes HG.out (hB0.out.trans (HB.out.mono (Nat.le_of_lt hsz0)))
/-- What validSpurs asks: the spurs, a depot and the spurs' names. -/
def SpursD (N : NetD) : Prop := SpursOk N ∧ (∃ s ∈ N.spurs, s.depot = true) ∧ ∀ s ∈ N.spurs, name s.name = true
theorem SpursD.at_ {N : NetD} (h : SpursD N) {k : Nat} (hk : k < N.spurs.length) : name N.spurs[k].name = true ∧ SpurFit N.blocks.length N.spurs k N.spurs[k] :=
  ⟨h.2.2 _ (List.getElem_mem hk), h.1.each k hk⟩
set_option maxRecDepth 100000 in
set_option maxHeartbeats 8000000 in
theorem devSpursX_c (Ab An As Ar : Option Addr) (cb cn cs cr : Nat) (N : NetD) (w : World) (hN : NetAt w Ab An As Ar N) (hl : NetLen N) (h1 : 1 ≤ N.blocks.length) (h2 : N.blocks.length ≤ 24) :
    Calls Try.prog 76 #[.agg #[.slice Ab N.blocks.length cb, .slice An N.next.length cn, .slice As N.spurs.length cs, .slice Ar N.robots.length cr, Iv N.queue, Iv N.aging, Iv N.detours, Iv N.patience]] w (Exact (SpursD N) w) := by
  have HS := Lib.hid hN.spurs
  have HLn := Lib.hid hl
  have hB0 := Lib.hid ((Below.refl w.heap.size w).alloc (Nat.le_refl _) (.cells (netCells Ab An As Ar cb cn cs cr N) 29))
  have CD := Lib.hid (fun W (hW : Below w.heap.size w W) (h6 : N.spurs.length ≤ 6) => hasDepotX_c As cs N.spurs W (hN.spurs.keep hW) (by omega))
  have HX := Lib.hid (boxAt_of (heap_alloc_new w (.cells (netCells Ab An As Ar cb cn cs cr N) 29)))
  have hsz0 : w.heap.size < (w.alloc (.cells (netCells Ab An As Ar cb cn cs cr N) 29)).heap.size := by simp
  obtain ⟨x0, _, x2, _, _, _, _, _⟩ := boxAt_of (heap_alloc_new w (.cells (netCells Ab An As Ar cb cn cs cr N) 29))
  clear hN hl
  by_cases h6 : N.spurs.length ≤ 6
  rotate_left
  · have HB : Hid (¬ SpursD N) := Lib.hid (fun h => h6 h.1.few)
    have h6i : (6 : Int) < (N.spurs.length : Int) := by omega
    go_enter Try.func76, Try.ntmps76
    go_wp2
    go_ret
    exact .no HB.out hB0.out
  have h6i : ¬ (6 : Int) < (N.spurs.length : Int) := by omega
  go_enter Try.func76, Try.ntmps76
  go_wp2_with fail
  generalize w.alloc (.cells (netCells Ab An As Ar cb cn cs cr N) 29) = w0 at *
  refine (CD.out _ hB0.out h6).mono ?_
  intro e w1 hE
  obtain ⟨hE, hb1⟩ := hE.use
  have HB1 : Hid (Below w0.heap.size w0 w1) := Lib.hid hb1
  clear x0 x2 hb1 CD
  obtain ⟨x0, _, x2, _, _, _, _, _⟩ := HX.out.keep hsz0 HB1.out
  obtain ⟨hd, rfl⟩ | ⟨hd, rfl⟩ := hE
  rotate_left
  · have HB : Hid (¬ SpursD N) := Lib.hid (fun h => hd h.2.1)
    clear hd
    go_wp2
    go_ret
    exact .no HB.out (hB0.out.trans (HB1.out.mono (Nat.le_of_lt hsz0)))
  have HD := Lib.hid hd
  clear hd
  have hlw : IntKind.i64.wrap ((N.blocks.length : Int) - 1) = (N.blocks.length : Int) - 1 := IntWalk.i64_in _ (by omega)
  go_wp2
  go_loopw [4, 27] (fun z i wr => ∃ (k : Nat) (zz : Int), i = .int .i64 k ∧ z = .int .i64 zz ∧ k ≤ N.spurs.length ∧ Hid (zz = N.blocks.length + slotsK N.spurs k) ∧ 0 ≤ zz ∧ zz ≤ 24 + 4 * k ∧ Hid (∀ j (h : j < N.spurs.length), j < k → name N.spurs[j].name = true ∧ SpurFit N.blocks.length N.spurs j N.spurs[j]) ∧ Hid (Below w0.heap.size w0 wr)) (fun _ i _ => N.spurs.length - (intOf i).toNat)
  case atStart => exact ⟨0, N.blocks.length, rfl, rfl, Nat.zero_le _, Lib.hid (by simp [slotsK]), by omega, by omega, Lib.hid (fun j h hj => by omega), HB1⟩
  case round =>
    clear x0 x2
    obtain ⟨k, zz, rfl, rfl, hk, HZ, hz0, hz1, HF, HB⟩ := hrel
    by_cases hlt : k < N.spurs.length
    · have hbw : Below w.heap.size w wr := hB0.out.trans (HB.out.mono (Nat.le_of_lt hsz0))
      obtain ⟨bb, ob, rfl, hbb, hs⟩ := HS.out.spur hlt
      obtain ⟨c0, c1, c2, c3, c4, c5⟩ := hs.keep hbb hbw
      have hnl : N.spurs[k].name.length ≤ maxLen := HLn.out.named _ (List.mem_append_right _ (List.mem_map.2 ⟨_, List.getElem_mem hlt, rfl⟩))
      have HZ2 := Lib.hid (slotsK_succ hlt)
      have HBa : Hid (∀ ob, Below w0.heap.size w0 (wr.alloc ob)) := Lib.hid (fun ob => HB.out.alloc HB.out.size ob)
      have HBb : Hid (∀ ob, Below w.heap.size w (wr.alloc ob)) := Lib.hid (fun ob => hbw.alloc hbw.size ob)
      have HBad : Hid (¬ (name N.spurs[k].name = true ∧ SpurFit N.blocks.length N.spurs k N.spurs[k]) → ¬ SpursD N) := Lib.hid (fun h hg => h (hg.at_ hlt))
      have HGood : Hid (name N.spurs[k].name = true ∧ SpurFit N.blocks.length N.spurs k N.spurs[k] → ∀ j (h : j < N.spurs.length), j < k + 1 → name N.spurs[j].name = true ∧ SpurFit N.blocks.length N.spurs j N.spurs[j]) := Lib.hid (fun hf j h hj => by
        rcases Nat.lt_succ_iff_lt_or_eq.1 hj with h2 | rfl
        · exact HF.out j h h2
        · exact hf)
      clear hs HB hbw HF
      generalize N.spurs[k] = s at *
      obtain ⟨nm, dp, si, so, sw, sb⟩ := s
      simp only at c0 c1 c2 c3 c4 c5 hnl HZ2
      obtain ⟨z1, hz1⟩ : ∃ z, name nm = z := ⟨_, rfl⟩
      obtain ⟨z2, hz2⟩ := flag (0 ≤ si ∧ si ≤ (N.blocks.length : Int) - 1)
      obtain ⟨z3, hz3⟩ := flag (0 ≤ so ∧ so ≤ (N.blocks.length : Int) - 1)
      obtain ⟨z4, hz4⟩ := flag (1 ≤ sw ∧ sw ≤ 4)
      have CN := Lib.hid (fun W => Name_c nm W hnl)
      rw [hz1] at CN
      have CI := Lib.hid (fun W => betw_z si 0 ((N.blocks.length : Int) - 1) z2 W hz2)
      have CO := Lib.hid (fun W => betw_z so 0 ((N.blocks.length : Int) - 1) z3 W hz3)
      have CW := Lib.hid (fun W => betw_z sw 1 4 z4 W hz4)
      have HZ1 := Lib.hid hz1
      have HQ2 := Lib.hid hz2
      have HQ3 := Lib.hid hz3
      have HQ4 := Lib.hid hz4
      clear hnl hz1 hz2 hz3 hz4
      go_wp2_with fail
      refine (CN.out _).mono ?_
      rintro e w2 ⟨rfl, rfl⟩
      rcases z1 with _ | _
      · have HB : Hid (¬ SpursD N) := Lib.hid (HBad.out (fun h => by have := h.1; rw [HZ1.out] at this; cases this))
        clear HBad HGood HQ2 HQ3 HQ4
        go_wp2
        go_ret
        exact .no HB.out (HBb.out _)
      have HOk1 := Lib.hid HZ1.out
      clear HZ1
      go_wp2_with fail
      refine (CI.out _).mono ?_
      rintro e w2 ⟨rfl, rfl⟩
      rcases z2 with _ | _
      · have HB : Hid (¬ SpursD N) := Lib.hid (HBad.out (fun h => Bool.false_ne_true (HQ2.out.2 (by have := h.2.inn; simp only at this; omega))))
        clear HBad HGood HQ2 HQ3 HQ4
        go_wp2
        go_ret
        exact .no HB.out (HBb.out _)
      have HOk2 := Lib.hid (HQ2.out.1 rfl)
      clear HQ2
      go_wp2_with fail
      refine (CO.out _).mono ?_
      rintro e w2 ⟨rfl, rfl⟩
      rcases z3 with _ | _
      · have HB : Hid (¬ SpursD N) := Lib.hid (HBad.out (fun h => Bool.false_ne_true (HQ3.out.2 (by have := h.2.out; simp only at this; omega))))
        clear HBad HGood HQ3 HQ4
        go_wp2
        go_ret
        exact .no HB.out (HBb.out _)
      have HOk3 := Lib.hid (HQ3.out.1 rfl)
      clear HQ3
      go_wp2_with fail
      refine (CW.out _).mono ?_
      rintro e w2 ⟨rfl, rfl⟩
      rcases z4 with _ | _
      · have HB : Hid (¬ SpursD N) := Lib.hid (HBad.out (fun h => Bool.false_ne_true (HQ4.out.2 h.2.slots)))
        clear HBad HGood HQ4
        go_wp2
        go_ret
        exact .no HB.out (HBb.out _)
      have hsw4 := HQ4.out.1 rfl
      clear HQ4
      by_cases hbs : sb = zz
      · subst hbs
        have hbne : (sb != sb) = false := by simp
        have HZ3 : Hid (sb + sw = N.blocks.length + slotsK N.spurs (k + 1)) := Lib.hid (by rw [HZ2.out, HZ.out]; omega)
        have hsw : IntKind.i64.wrap (sb + sw) = sb + sw := IntWalk.i64_in _ (by omega)
        have HF2 := Lib.hid (HGood.out ⟨HOk1.out, ⟨by have := HOk2.out; simp only; omega, by have := HOk3.out; simp only; omega, hsw4, HZ.out⟩⟩)
        clear HBad HGood HZ HZ2 HOk2 HOk3
        go_wp2
        go_roundw
        case rel => exact ⟨k + 1, sb + sw, by go_num, rfl, by omega, HZ3, by omega, by omega, HF2, Lib.hid (HBa.out _)⟩
        case measure => simp [intOf]; omega
      · have hbne : (sb != zz) = true := by simpa using hbs
        have HB : Hid (¬ SpursD N) := Lib.hid (HBad.out (fun h => hbs (by have := h.2.base; simp only at this; rw [this, HZ.out])))
        clear HBad HGood HZ HZ2 hbs
        go_wp2
        go_ret
        exact .no HB.out (HBb.out _)
    · obtain rfl : k = N.spurs.length := by omega
      have HG : Hid (SpursD N) := Lib.hid ⟨⟨h6, fun j h => (HF.out j h h).2⟩, HD.out, fun s hs => by obtain ⟨j, hj, rfl⟩ := List.mem_iff_getElem.1 hs; exact (HF.out j hj hj).1⟩
      go_wp2
      go_ret
      exact .yes HG.out (hB0.out.trans (HB.out.mono (Nat.le_of_lt hsz0)))
end Go.Proofs.Ytjbhmeeebacnpaa
namespace Go.Proofs.Ytjbhmeeebacnpaa
open Go Go.RowKit Fl

theorem name_le12 {s : List UInt8} (h : name s = true) : s.length ≤ 12 := by
  have h' := h
  unfold name at h'
  simp at h'
  omega
/-- The map's keys are the first i names; it counts those that differ. -/
def KeysOf (L : List (List UInt8)) (i : Nat) (D : DataW Unit) : Prop := Maps.size D ≤ i ∧ (Maps.size D = i ↔ (L.take i).Nodup) ∧ ∀ s, Maps.has D (.string s) = true ↔ s ∈ L.take i
theorem KeysOf.zero (L : List (List UInt8)) : KeysOf L 0 (.map []) := ⟨Nat.le_refl _, ⟨fun _ => List.nodup_nil, fun _ => rfl⟩, fun s => ⟨fun h => absurd h (by simp [Maps.has]), fun h => absurd h (by simp)⟩⟩
theorem KeysOf.step {L : List (List UInt8)} {i : Nat} {D : DataW Unit} (hi : i < L.length) (ht : Maps.Tidy D) (h : KeysOf L i D) (d : DataW Unit) : KeysOf L (i + 1) (D.put (.string L[i]) d) := by
  obtain ⟨h1, h2, h3⟩ := h
  have hsz := Maps.size_put ht (k := .string L[i]) d
  have hT : L.take (i + 1) = L.take i ++ [L[i]] := List.take_succ_eq_append_getElem hi
  have hnd : (L.take (i + 1)).Nodup ↔ (L.take i).Nodup ∧ L[i] ∉ L.take i := by
    rw [hT, List.nodup_append]
    constructor
    · rintro ⟨a, _, c⟩
      exact ⟨a, fun hm => c _ hm _ (by simp) rfl⟩
    · rintro ⟨a, b⟩
      exact ⟨a, by simp, fun x hx y hy => by rw [List.mem_singleton] at hy; subst hy; exact fun e => b (e ▸ hx)⟩
  refine ⟨?_, ?_, fun s => ?_⟩
  · rw [hsz]
    split <;> omega
  · rw [hsz, hnd]
    by_cases hm : L[i] ∈ L.take i
    · rw [if_pos ((h3 _).2 hm)]
      exact ⟨fun e => by omega, fun ⟨_, e⟩ => absurd hm e⟩
    · rw [if_neg (fun e => hm ((h3 _).1 e)), ← h2]
      exact ⟨fun e => ⟨by omega, hm⟩, fun ⟨e, _⟩ => by omega⟩
  · rw [hT, List.mem_append, List.mem_singleton]
    by_cases hs : s = L[i]
    · subst hs
      exact ⟨fun _ => .inr rfl, fun _ => Maps.has_put_same (k := .string L[i]) ht.isMap (by unfold WideAt.IsKeyLit; trivial) d⟩
    · rw [Maps.has_put_other (fun e => hs (by injection e)), h3 s]
      exact ⟨.inl, fun h => h.elim id (fun e => absurd e hs)⟩
set_option maxRecDepth 100000 in
set_option maxHeartbeats 8000000 in
theorem distinctX_c (Ab An As Ar : Option Addr) (cb cn cs cr : Nat) (N : NetD) (w : World) (hN : NetAt w Ab An As Ar N) (h24 : N.blocks.length ≤ 24) (h6 : N.spurs.length ≤ 6) (hnm : ∀ s ∈ namesN N, name s = true) :
    Calls Try.prog 77 #[.agg #[.slice Ab N.blocks.length cb, .slice An N.next.length cn, .slice As N.spurs.length cs, .slice Ar N.robots.length cr, Iv N.queue, Iv N.aging, Iv N.detours, Iv N.patience]] w (Exact ((namesN N).Nodup) w) := by
  have HBl := Lib.hid hN.blocks
  have HSp := Lib.hid hN.spurs
  have HNl := Lib.hid (names_len2 N)
  have HSh : Hid (∀ s ∈ namesN N, s.length ≤ 12) := Lib.hid (fun s hs => name_le12 (hnm s hs))
  have hb0 : Below w.heap.size w ((w.alloc (.cells (netCells Ab An As Ar cb cn cs cr N) 29)).alloc (.map #[] 0)) := ((Below.refl _ _).alloc (Nat.le_refl _) _).alloc (by simp) _
  have HB0 := Lib.hid hb0
  have s1 : (w.alloc (.cells (netCells Ab An As Ar cb cn cs cr N) 29)).heap.size = w.heap.size + 1 := by simp
  have HX0 : Hid (((w.alloc (.cells (netCells Ab An As Ar cb cn cs cr N) 29)).alloc (.map #[] 0)).heap[w.heap.size]? = some (.cells (netCells Ab An As Ar cb cn cs cr N) 29 (0, 0))) := Lib.hid ((Below.heap_alloc _ _ _ (by rw [s1]; omega)).trans (heap_alloc_new w _))
  have HM0 : Hid (MapB ((w.alloc (.cells (netCells Ab An As Ar cb cn cs cr N) 29)).alloc (.map #[] 0)) (w.heap.size + 1) 0 (.map [])) := Lib.hid (by
    have h := World.ownsMap_made (w.alloc (.cells (netCells Ab An As Ar cb cn cs cr N) 29)) Try.prog 9 (plainElem (H := Unit) Try.prog 4)
    rw [s1] at h
    exact h)
  obtain ⟨x0, _, x2, _⟩ := boxAt_of HX0.out
  clear hN hb0 s1 hnm
  have hmm := @run_makeMap Try.prog
  go_enter Try.func77, Try.ntmps77
  go_wp2
  go_loopw [12] (fun i wr => ∃ (k : Nat) (D : DataW Unit), i = .int .i64 k ∧ k ≤ N.blocks.length ∧ Hid (KeysOf (namesN N) k D) ∧ Hid (MapB wr (w.heap.size + 1) k D) ∧ Hid (Below w.heap.size w wr) ∧ Hid (wr.heap[w.heap.size]? = some (.cells (netCells Ab An As Ar cb cn cs cr N) 29 (0, 0)))) (fun i _ => N.blocks.length - (intOf i).toNat)
  case atStart => exact ⟨0, .map [], rfl, Nat.zero_le _, Lib.hid (KeysOf.zero _), HM0, HB0, HX0⟩
  case round =>
    clear HM0 HB0 HX0
    obtain ⟨k, D, rfl, hk, HK, HM, HB, HX⟩ := hrel
    by_cases hlt : k < N.blocks.length
    · obtain ⟨b, o, rfl, hbl, hs⟩ := HBl.out.block hlt
      obtain ⟨c0, c1, c2⟩ := hs.keep hbl HB.out
      obtain ⟨hl, he⟩ := names_block (N := N) hlt
      have HK2 := Lib.hid (HK.out.step hl (HM.out.tidy str_keyed) (.lit (.bool true)))
      have hsh := HSh.out _ (List.getElem_mem hl)
      rw [he] at HK2 hsh
      have hbz := HB.out.size
      clear hs he hl HK
      generalize N.blocks[k] = s at *
      obtain ⟨nm, xx, yy⟩ := s
      simp only at c0 c1 c2 HK2 hsh
      have HMa : Hid (∀ ob, MapB (wr.alloc ob) (w.heap.size + 1) k D) := Lib.hid (fun ob => HM.out.alloc ob)
      have hkey := Lib.hid (key_str nm hsh)
      go_wp2_with (at_mapUpdate; refine wpList_mapUpdate_own _ rfl _ _ _ 113 rfl 9 4 str_keyed Try.underlying113 (plainElem Try.prog 4) (w.heap.size + 1) k D rfl (HMa.out _) (by unfold maxLen; omega) _ _ (.string nm) rfl rfl hkey.out (.lit (.bool true)) [] val_true ?_)
      intro w1 hown hgrow
      have HM1 := Lib.hid hown
      have HB1 : Hid (Below w.heap.size w w1) := Lib.hid ((HB.out.alloc hbz _).grown hgrow (by simp; omega) (fun j hj => by injection hj with hj; omega))
      have HX1 : Hid (w1.heap[w.heap.size]? = some (.cells (netCells _ _ _ _ _ _ _ _ N) 29 (0, 0))) := Lib.hid ((hgrow.block _ (by simp; omega) (fun e => by injection e with e; omega)).trans ((Below.heap_alloc _ _ _ (by have := block_lt HX.out; omega)).trans HX.out))
      clear hown hgrow HM HB HX HMa
      go_wp2
      go_roundw
      case rel => exact ⟨k + 1, _, by go_num, by omega, HK2, HM1, HB1, HX1⟩
      case measure => simp [intOf]; omega
    · obtain rfl : k = N.blocks.length := by omega
      clear hlt hk
      obtain ⟨x0, _, x2, _⟩ := boxAt_of HX.out
      go_wp2
      go_loopw [23] (fun i wr => ∃ (k : Nat) (D : DataW Unit), i = .int .i64 k ∧ k ≤ N.spurs.length ∧ Hid (KeysOf (namesN N) (N.blocks.length + k) D) ∧ Hid (MapB wr (w.heap.size + 1) (N.blocks.length + k) D) ∧ Hid (Below w.heap.size w wr) ∧ Hid (wr.heap[w.heap.size]? = some (.cells (netCells Ab An As Ar cb cn cs cr N) 29 (0, 0)))) (fun i _ => N.spurs.length - (intOf i).toNat)
      case atStart => exact ⟨0, D, rfl, Nat.zero_le _, HK, HM, HB, HX⟩
      case round =>
        clear HM HB HX HK x0 x2
        clear D
        obtain ⟨k, D, rfl, hk, HK, HM, HB, HX⟩ := hrel
        by_cases hlt : k < N.spurs.length
        · obtain ⟨b, o, rfl, hbl, hs⟩ := HSp.out.spur hlt
          obtain ⟨c0, c1, c2, c3, c4, c5⟩ := hs.keep hbl HB.out
          obtain ⟨hl, he⟩ := names_spur (N := N) hlt
          have HK2 := Lib.hid (HK.out.step hl (HM.out.tidy str_keyed) (.lit (.bool true)))
          have hsh := HSh.out _ (List.getElem_mem hl)
          rw [he] at HK2 hsh
          have hbz := HB.out.size
          clear hs he hl HK
          generalize N.spurs[k] = s at *
          obtain ⟨nm, dp, si, so, sw, sb⟩ := s
          simp only at c0 c1 c2 c3 c4 c5 HK2 hsh
          have HMa : Hid (∀ ob, MapB (wr.alloc ob) (w.heap.size + 1) (N.blocks.length + k) D) := Lib.hid (fun ob => HM.out.alloc ob)
          have hkey := Lib.hid (key_str nm hsh)
          go_wp2_with (at_mapUpdate; refine wpList_mapUpdate_own _ rfl _ _ _ 113 rfl 9 4 str_keyed Try.underlying113 (plainElem Try.prog 4) (w.heap.size + 1) (N.blocks.length + k) D rfl (HMa.out _) (by unfold maxLen; omega) _ _ (.string nm) rfl rfl hkey.out (.lit (.bool true)) [] val_true ?_)
          intro w1 hown hgrow
          have HM1 := Lib.hid hown
          have HB1 : Hid (Below w.heap.size w w1) := Lib.hid ((HB.out.alloc hbz _).grown hgrow (by simp; omega) (fun j hj => by injection hj with hj; omega))
          have HX1 : Hid (w1.heap[w.heap.size]? = some (.cells (netCells _ _ _ _ _ _ _ _ N) 29 (0, 0))) := Lib.hid ((hgrow.block _ (by simp; omega) (fun e => by injection e with e; omega)).trans ((Below.heap_alloc _ _ _ (by have := block_lt HX.out; omega)).trans HX.out))
          clear hown hgrow HM HB HX HMa
          go_wp2
          go_roundw
          case rel => exact ⟨k + 1, _, by go_num, by omega, HK2, HM1, HB1, HX1⟩
          case measure => simp [intOf]; omega
        · obtain rfl : k = N.spurs.length := by omega
          clear hlt hk
          obtain ⟨x0, _, x2, _⟩ := boxAt_of HX.out
          have HP : Hid (Maps.size D = N.blocks.length + N.spurs.length ↔ (namesN N).Nodup) := Lib.hid (by
            have h := HK.out.2.1
            rw [← HNl.out, List.take_of_length_le (Nat.le_refl _)] at h
            rw [← HNl.out]; exact h)
          have hww : IntKind.i64.wrap ((N.blocks.length : Int) + (N.spurs.length : Int)) = (N.blocks.length : Int) + (N.spurs.length : Int) := IntWalk.i64_in _ (by omega)
          go_wp2_with (at_len; refine wpList_len_own _ rfl _ 113 rfl 9 4 Try.underlying113 (plainElem Try.prog 4) (w.heap.size + 1) _ D rfl HM.out ?_)
          go_ret
          exact .is (by rw [← HP.out]; simp; omega) HB.out
end Go.Proofs.Ytjbhmeeebacnpaa
