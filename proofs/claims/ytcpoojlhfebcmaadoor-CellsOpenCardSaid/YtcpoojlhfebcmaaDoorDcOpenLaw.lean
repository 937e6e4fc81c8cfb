/- CellsOpen returns true. -/
import Derived.Test.YtcpoojlhfebcmaaDoorDcExample
import Derived.Test.YtcpoojlhfebcmaaDoorMjF
import Derived.Test.YtcpoojlhfebcmaaDoorMjH
namespace Go.Proofs.YtcpoojlhfebcmaaDoor
open Go Go.RowKit Fl

/-- One of the first m slots of a spur, its In or its Out is shut. -/
def hitK (s : List Bool) (i o b m : Nat) : Bool := (atB s i || atB s o) || (List.range m).any (fun j => atB s (b + j))
theorem hitK_succ (s : List Bool) (i o b m : Nat) : hitK s i o b (m + 1) = (hitK s i o b m || atB s (b + m)) := by
  unfold hitK
  rw [List.range_succ, List.any_append, List.any_cons, List.any_nil, Bool.or_false]
  simp only [Bool.or_assoc]
theorem openS_hit (s : List Bool) (nm : List UInt8) (dp : Bool) (i o b m : Nat) : openS s ⟨nm, dp, i, o, m, b⟩ = !hitK s i o b m := by
  unfold openS hitK
  simp only [Int.toNat_natCast, Bool.not_or]
theorem openS_none (n : Nat) (x : SpurD) : openS (opens n) x = true := by
  have h : ∀ v, atB (opens n) v = false := fun v => by
    unfold atB opens
    rw [List.getD_eq_getElem?_getD, List.getElem?_replicate]
    split <;> rfl
  unfold openS
  simp [h]
set_option maxRecDepth 100000 in
set_option maxHeartbeats 8000000 in
theorem cellsOpen_c (C : Option Addr) (k : Nat) (zs : List Int) (kk : Int) (w : World) (hz : IntsAt w w.heap.size C zs) (hzl : zs.length ≤ maxLen) (hk1 : -9223372036854775808 ≤ kk) (hk2 : kk ≤ 9223372036854775807) (hp : Pows w) :
    Calls Tryd.prog 6 #[.slice C zs.length k, .int .i64 kk] w fun e w' => e = .returned (.bool true) ∧ Below w.heap.size w w' := by
  have CK := Lib.hid (known9_c w hp)
  have HZ := Lib.hid hz
  have HL := Lib.hid hzl
  have HP := Lib.hid hp
  have HK := Lib.hid (show -9223372036854775808 ≤ kk ∧ kk ≤ 9223372036854775807 from ⟨hk1, hk2⟩)
  clear hz hzl hp hk1 hk2
  go_enter Tryd.func6, Tryd.ntmps6
  go_wp2_with fail
  refine CK.out.mono ?_
  rintro e w1 ⟨rfl, hb1⟩
  have HT2 := Lib.hid (tape_new (c := k) HZ.out (Nat.le_refl _) hb1 HL.out)
  have HB2 : Hid (Below w.heap.size w (w1.alloc (.cells #[.slice C zs.length k, .int .i64 0] 35))) := Lib.hid (hb1.alloc hb1.size _)
  have HgB : Hid (w.heap.size ≤ w1.heap.size) := Lib.hid hb1.size
  have HS2 : Hid (w1.heap.size < (w1.alloc (.cells #[.slice C zs.length k, .int .i64 0] 35)).heap.size) := Lib.hid (by simp)
  clear hb1 CK HZ HL
  go_wp2_with fail
  refine (loose_c w.heap.size w1.heap.size 0 8 _ HT2.out (by omega) ⟨by omega, by omega⟩ HS2.out HgB.out).mono ?_
  rintro e w3 ⟨N, Ab, An, As, Ar, cb, cn, cs, cr, top, rfl, hN, hM⟩
  have HN := Lib.hid hN
  have H4 := Lib.hid (MadeN.begin hM ⟨HgB.out, HS2.out⟩ HB2.out)
  generalize w1.alloc (.cells #[.slice C zs.length k, .int .i64 0] 35) = w2 at *
  clear hN hM HT2 HB2 HgB HS2
  go_upto_region 4 with fail
  generalize w3.alloc (.cells (netCells Ab An As Ar cb cn cs cr N) 29) = w4 at *
  generalize w3.heap.size = X at *
  have HNt := Lib.hid (fun W (hW : Below w4.heap.size w4 W) => (H4.out.keep hW).nm.at_)
  have HX := Lib.hid (fun W (hW : Below w4.heap.size w4 W) => boxAt_of (H4.out.keep hW).box)
  have HBw := Lib.hid (fun W (hW : Below w4.heap.size w4 W) => (H4.out.keep hW).below)
  have HPw := Lib.hid (fun W (hW : Below w4.heap.size w4 W) => HP.out.keep (HBw.out W hW))
  have HCr := Lib.hid H4.out.nm.capR
  have HOk := Lib.hid HN.out.ok
  have h6 := HOk.out.spurs6
  clear HP H4
  have CCt := Lib.hid (fun W (hW : Below w4.heap.size w4 W) => count_c Ab An As Ar cb cn cs cr N W (HNt.out W hW) HOk.out HCr.out)
  obtain ⟨n, hn⟩ : ∃ n : Nat, cellsN N = (n : Int) := ⟨(cellsN N).toNat, by have := HOk.out.cells_ge; omega⟩
  have hn48 : 1 ≤ n ∧ n ≤ 48 := by
    have h1 := cellsN_le HOk.out.few'
    have h2 := HOk.out.cells_ge
    have h3 := HOk.out.some
    omega
  obtain ⟨b, hb⟩ : ∃ b, b = cutN kk n := ⟨_, rfl⟩
  have hbn := cutN_lt (v := kk) hn48.1
  rw [← hb] at hbn
  have CB : Hid (∀ W, Calls Tryd.prog 29 #[.int .i64 kk, .int .i64 n] W fun e w' => e = .returned (.int .i64 b) ∧ W = w') := Lib.hid (fun W => by rw [hb]; exact cutN_c kk n W hn48.1 (by omega) HK.out.1 HK.out.2)
  clear hb
  have COp := Lib.hid (fun j s A d W (hW : Below w4.heap.size w4 W) (hs : Holds W A (s.map Bo)) (hsl : s.length = n) (hd : n ≤ d) (hj : j < N.spurs.length) => devOpen_c Ab An As Ar A cb cn cs cr d j N s W (HNt.out W hW) HOk.out HCr.out hs (by rw [hsl, hn]) (by rw [hsl]; exact hd) hj)
  have HSpn : Hid (∀ x ∈ N.spurs, (0 ≤ x.inn ∧ x.inn < n) ∧ (0 ≤ x.out ∧ x.out < n) ∧ (0 ≤ x.base ∧ 1 ≤ x.slots ∧ x.slots ≤ 4 ∧ x.base + x.slots ≤ n)) := Lib.hid (fun x hx => by
    have h1 := HOk.out.spurOk x hx
    have h2 := HOk.out.bounds x hx
    obtain ⟨j, hj, rfl⟩ := List.mem_iff_getElem.1 hx
    have h3 := HOk.out.cell_lt hj
    have h4 := HOk.out.cells_ge
    have h5 := h1.inn
    have h6 := h1.out
    omega)
  rw [hn] at CCt
  have HSp := Lib.hid (fun W (hW : Below w4.heap.size w4 W) => (HNt.out W hW).spurs)
  clear HNt HOk HCr HN HPw hn
  obtain ⟨x0, x1, x2, x3, x4, x5, x6, x7⟩ := HX.out _ (Below.refl _ _)
  go_wp2_with fail
  refine (CCt.out _ (Below.refl _ _)).mono ?_
  rintro e w5 ⟨rfl, hb5⟩
  have HB5 := Lib.hid hb5
  clear x0 x1 x2 x3 x4 x5 x6 x7 hb5 CCt
  have mk := make_bools n (by omega)
  have HG : Hid ((w5.alloc (.cells (madeCells #[.bool false] n) 4)).heap[w5.heap.size]? = some (.cells ((opens n).map Bo).toArray 4 (0, 0))) := Lib.hid (by rw [heap_alloc_new, ← made_bools])
  have HB6 : Hid (Below w4.heap.size w4 (w5.alloc (.cells (madeCells #[.bool false] n) 4))) := Lib.hid (HB5.out.alloc HB5.out.size _)
  have hlow : w4.heap.size ≤ w5.heap.size := HB5.out.size
  have hn1 : ¬ ((n : Int) < 1) := by omega
  go_upto_region 8 with fail
  generalize w5.alloc (.cells (madeCells #[.bool false] n) 4) = w6 at *
  generalize w5.heap.size = G at *
  clear HB5
  have g1 : w6.cell? ⟨G, b, none⟩ = some (Bo false) := by
    rw [cell_of_row _ _ b _ _ _ HG.out]
    simp [opens, hbn]
  have g2 : w6.frozen? ⟨G, b, none⟩ = false := by simp [World.frozen?, HG.out]
  obtain ⟨s, hs⟩ : ∃ s, s = (opens n).set b true := ⟨_, rfl⟩
  have hsl : s.length = n := by rw [hs]; simp [opens]
  have HG7 : Hid ((w6.setCell ⟨G, b, none⟩ (.bool true)).heap[G]? = some (.cells (s.map Bo).toArray 4 (0, 0))) := Lib.hid (by
    rw [set1_at HG.out, List.setIfInBounds_toArray, hs, List.map_set])
  have HB7 : Hid (Below w4.heap.size w4 (w6.setCell ⟨G, b, none⟩ (.bool true))) := Lib.hid (below_put HB6.out hlow)
  clear hs HG HB6
  go_wp2_with fail
  refine (CB.out _).mono ?_
  rintro e w7 ⟨rfl, rfl⟩
  go_wp2
  generalize w6.setCell ⟨G, b, none⟩ (.bool true) = w7 at *
  clear g1 g2 CB hlow
  have hGl : G < w7.heap.size := block_lt HG7.out
  have HSc : Hid (∀ W, Below w7.heap.size w7 W → W.heap[G]? = some (.cells (s.map Bo).toArray 4 (0, 0))) := Lib.hid (fun W hW => (hW.block G hGl).trans HG7.out)
  have H47 := Lib.hid (fun W (hW : Below w7.heap.size w7 W) => HB7.out.trans (hW.mono HB7.out.size))
  have COs := Lib.hid (fun j W (hW : Below w7.heap.size w7 W) (hj : j < N.spurs.length) => by
    have h := COp.out j s (some ⟨G, 0, none⟩) n W (H47.out W hW) (holds_row (HSc.out W hW) rfl) hsl (Nat.le_refl _) hj
    rw [hsl] at h
    exact h)
  have COz := Lib.hid (fun (j G' : Nat) (W : World) (hW : Below w7.heap.size w7 W) (hg : W.heap[G']? = some (.cells ((opens n).map Bo).toArray 4 (0, 0))) (hj : j < N.spurs.length) => by
    have hl : (opens n).length = n := by simp [opens]
    have h := COp.out j (opens n) (some ⟨G', 0, none⟩) n W (H47.out W hW) (holds_row hg rfl) hl (Nat.le_refl _) hj
    rw [hl, openS_none] at h
    exact h)
  have HX7 := Lib.hid (fun W (hW : Below w7.heap.size w7 W) => HX.out W (H47.out W hW))
  have HSp7 := Lib.hid (fun W (hW : Below w7.heap.size w7 W) => HSp.out W (H47.out W hW))
  have HBw7 := Lib.hid (fun W (hW : Below w7.heap.size w7 W) => HBw.out W (H47.out W hW))
  clear HG7 HB7 hGl H47 HX HSp HBw COp
  go_loopw [9] (fun i wr => ∃ j : Nat, i = .int .i64 j ∧ j ≤ N.spurs.length ∧ Hid (Below w7.heap.size w7 wr)) (fun i _ => N.spurs.length - (intOf i).toNat)
  case atStart => exact ⟨0, rfl, Nat.zero_le _, Lib.hid (Below.refl _ _)⟩
  case round =>
    obtain ⟨j, rfl, hj, HB⟩ := hrel
    obtain ⟨x0, x1, x2, x3, x4, x5, x6, x7⟩ := HX7.out _ HB.out
    by_cases hlt : j < N.spurs.length
    · have CO1 := Lib.hid (fun W (hW : Below w7.heap.size w7 W) => COs.out j W hW hlt)
      have CO0 := Lib.hid (fun (G' : Nat) (W : World) (hW : Below w7.heap.size w7 W) (hg : W.heap[G']? = some (.cells ((opens n).map Bo).toArray 4 (0, 0))) => COz.out j G' W hW hg hlt)
      obtain ⟨hi, ho, hbd⟩ := HSpn.out _ (List.getElem_mem hlt)
      obtain ⟨bp, op, rfl, hbp, hsp⟩ := (HSp7.out _ HB.out).spur hlt
      obtain ⟨c0, c1, c2, c3, c4, c5⟩ := hsp
      clear COs COz hbp
      generalize N.spurs[j] = x at *
      obtain ⟨nm, dp, si, so, sw, sb⟩ := x
      simp only at c0 c1 c2 c3 c4 c5 hbd hi ho CO1 CO0
      obtain ⟨si, rfl⟩ := Int.eq_ofNat_of_zero_le hi.1
      obtain ⟨so, rfl⟩ := Int.eq_ofNat_of_zero_le ho.1
      obtain ⟨sb, rfl⟩ := Int.eq_ofNat_of_zero_le hbd.1
      obtain ⟨sw, rfl⟩ := Int.eq_ofNat_of_zero_le (show 0 ≤ sw by omega)
      have HOp : Hid (openS s ⟨nm, dp, si, so, sw, sb⟩ = !hitK s si so sb sw) := Lib.hid (openS_hit s nm dp si so sb sw)
      rw [HOp.out] at CO1
      have hsi : si < s.length := by omega
      have hso : so < s.length := by omega
      have hbw : sb + sw ≤ s.length := by omega
      have hsw4 : sw ≤ 4 := by omega
      have hw1 : IntKind.i64.wrap ((sb : Int) + (sw : Int)) = ((sb + sw : Nat) : Int) := by
        rw [show ((sb + sw : Nat) : Int) = (sb : Int) + (sw : Int) by omega]
        exact IntWalk.i64_in _ (by omega)
      obtain ⟨t, ht⟩ : ∃ t, t = sb + sw := ⟨_, rfl⟩
      rw [← ht] at hw1 hbw
      have HT := Lib.hid ht
      clear ht HOp hi ho hbd
      have HY := Lib.hid (heap_alloc_new wr (.cells #[Sv nm, Bo dp, Iv si, Iv so, Iv sw, Iv sb] 56))
      have HB8 : Hid (Below w7.heap.size w7 (wr.alloc (.cells #[Sv nm, Bo dp, Iv si, Iv so, Iv sw, Iv sb] 56))) := Lib.hid (HB.out.alloc HB.out.size _)
      have hsz8 : wr.heap.size < (wr.alloc (.cells #[Sv nm, Bo dp, Iv si, Iv so, Iv sw, Iv sb] 56)).heap.size := by simp
      go_upto_region 13 with fail
      generalize wr.alloc (.cells #[Sv nm, Bo dp, Iv si, Iv so, Iv sw, Iv sb] 56) = w8 at *
      generalize wr.heap.size = Y at *
      clear x0 x1 x2 x3 x4 x5 x6 x7 c0 c1 c2 c3 c4 c5 HB
      have HYc : Hid (∀ W, Below w8.heap.size w8 W → W.cell? ⟨Y, 2, none⟩ = some (Iv si) ∧ W.cell? ⟨Y, 3, none⟩ = some (Iv so) ∧ W.cell? ⟨Y, 4, none⟩ = some (Iv sw) ∧ W.cell? ⟨Y, 5, none⟩ = some (Iv sb)) := Lib.hid (fun W hW => by
        have h := (hW.block Y hsz8).trans HY.out
        refine ⟨?_, ?_, ?_, ?_⟩
        all_goals rw [cell_of_row _ _ _ _ _ _ h]; rfl)
      have HG8 : Hid (∀ W, Below w8.heap.size w8 W → ∀ v (hv : v < s.length), W.cell? ⟨G, v, none⟩ = some (Bo (atB s v))) := Lib.hid (fun W hW v hv => by
        rw [cell_of_row _ _ _ _ _ _ (HSc.out W (HB8.out.trans (hW.mono HB8.out.size))), atB_get hv]
        simp [hv])
      have H78 := Lib.hid (fun W (hW : Below w8.heap.size w8 W) => HB8.out.trans (hW.mono HB8.out.size))
      clear HY hsz8
      obtain ⟨y2, y3, y4, y5⟩ := HYc.out _ (Below.refl _ _)
      have gi := HG8.out _ (Below.refl _ _) si hsi
      have go_ := HG8.out _ (Below.refl _ _) so hso
      have H0 : Hid (hitK s si so sb 0 = (atB s si || atB s so)) := Lib.hid (by simp [hitK])
      go_cut [11] (fun h wx => ∃ hv : Bool, h = .bool hv ∧ Hid (hv = hitK s si so sb 0) ∧ wx = w8)
      case first =>
        clear CO1 CO0 HSc HX7 HSp7 HBw7 HSpn HG8
        generalize atB s si = v1 at *
        generalize atB s so = v2 at *
        rcases v1 with _ | _
        · rcases v2 with _ | _
          all_goals
            go_wp2_with fail
            go_meet
            exact ⟨_, rfl, Lib.hid (by rw [H0.out] <;> rfl), rfl⟩
        · go_wp2_with fail
          go_meet
          exact ⟨_, rfl, Lib.hid (by rw [H0.out] <;> rfl), rfl⟩
      case rest =>
        obtain ⟨h0, rfl, HH0, rfl⟩ := hcut
        clear H0 gi go_ y2 y3 y4 y5
        obtain ⟨y2, y3, y4, y5⟩ := HYc.out _ (Below.refl _ _)
        go_wp2
        clear y2 y3 y4 y5
        go_loopw [11, 12] (fun h i wr => ∃ (hv : Bool) (m : Nat), h = .bool hv ∧ i = .int .i64 ((sb + m : Nat) : Int) ∧ m ≤ sw ∧ Hid (hv = hitK s si so sb m) ∧ wr = wc) (fun _ i _ => (t : Int).toNat - (intOf i).toNat)
        case atStart => exact ⟨h0, 0, rfl, rfl, Nat.zero_le _, HH0, rfl⟩
        case round =>
          clear HH0
          obtain ⟨hv, m, rfl, rfl, hm, HV, rfl⟩ := hrel
          obtain ⟨y2, y3, y4, y5⟩ := HYc.out _ (Below.refl _ _)
          by_cases hmt : m < sw
          · have hbm : sb + m < s.length := by have := HT.out; omega
            have gm := HG8.out _ (Below.refl _ _) _ hbm
            have HS := Lib.hid (hitK_succ s si so sb m)
            have hlm : sb + m < t := by rw [HT.out]; omega
            clear hbm
            generalize atB s (sb + m) = v at *
            rcases hv with _ | _
            · have HV2 : Hid (v = hitK s si so sb (m + 1)) := Lib.hid (by rw [HS.out, ← HV.out, Bool.false_or])
              clear HS HV
              go_wp2
              go_roundw
              case rel => exact ⟨v, m + 1, rfl, by go_num, by omega, HV2, by first | rfl | trivial⟩
              case measure => simp [intOf]; omega
            · have HV2 : Hid (true = hitK s si so sb (m + 1)) := Lib.hid (by rw [HS.out, ← HV.out, Bool.true_or])
              clear HS HV
              go_wp2
              go_roundw
              case rel => exact ⟨true, m + 1, rfl, by go_num, by omega, HV2, by first | rfl | trivial⟩
              case measure => simp [intOf]; omega
          · obtain rfl : m = sw := by omega
            have hlm : ¬ (sb + m < t) := by rw [HT.out]; omega
            obtain rfl := HV.out
            clear HV
            go_wp2_with fail
            clear y2 y3 y4 y5 hlm HYc HG8
            have HXr : Hid (∀ W, Below wr.heap.size wr W → W.cell? ⟨X, 0, none⟩ = some (.slice Ab N.blocks.length cb) ∧ W.cell? ⟨X, 1, none⟩ = some (.slice An N.next.length cn) ∧ W.cell? ⟨X, 2, none⟩ = some (.slice (some ⟨bp, op, none⟩) N.spurs.length cs) ∧ W.cell? ⟨X, 3, none⟩ = some (.slice Ar N.robots.length cr) ∧ W.cell? ⟨X, 4, none⟩ = some (Iv N.queue) ∧ W.cell? ⟨X, 5, none⟩ = some (Iv N.aging) ∧ W.cell? ⟨X, 6, none⟩ = some (Iv N.detours) ∧ W.cell? ⟨X, 7, none⟩ = some (Iv N.patience)) := Lib.hid (fun W hW => by
              obtain ⟨q0, q1, q2, q3, q4, q5, q6, q7⟩ := HX7.out _ (H78.out W hW)
              exact ⟨q0, q1, q2, q3, q4, q5, q6, q7⟩)
            have Ha : Hid (Below wr.heap.size wr (wr.alloc (.cells (madeCells #[.bool false] n) 4)).drew) := Lib.hid (((Below.refl _ _).alloc (Nat.le_refl _) _).drew)
            have hgz : (wr.alloc (.cells (madeCells #[.bool false] n) 4)).drew.heap[wr.heap.size]? = some (.cells ((opens n).map Bo).toArray 4 (0, 0)) := (heap_alloc_new wr _).trans (by rw [← made_bools])
            have CZ := Lib.hid (CO0.out wr.heap.size _ (H78.out _ Ha.out) hgz)
            clear hgz CO0
            obtain ⟨x0, x1, x2, x3, x4, x5, x6, x7⟩ := HXr.out _ (Below.refl _ _)
            go_region_held3 (fun W => W.cell? ⟨X, 0, none⟩ = some (.slice Ab N.blocks.length cb) ∧ W.cell? ⟨X, 1, none⟩ = some (.slice An N.next.length cn) ∧ W.cell? ⟨X, 2, none⟩ = some (.slice (some ⟨bp, op, none⟩) N.spurs.length cs) ∧ W.cell? ⟨X, 3, none⟩ = some (.slice Ar N.robots.length cr) ∧ W.cell? ⟨X, 4, none⟩ = some (Iv N.queue) ∧ W.cell? ⟨X, 5, none⟩ = some (Iv N.aging) ∧ W.cell? ⟨X, 6, none⟩ = some (Iv N.detours) ∧ W.cell? ⟨X, 7, none⟩ = some (Iv N.patience)) (first | (with_reducible exact HXr.out _ Ha.out) | (with_reducible exact HXr.out _ ((Below.refl _ _).drew)) | exact HXr.out _ HB19.out) (first | (go_at_call 24; refine CZ.out.mono ?_; rintro e w19 ⟨rfl, hb19⟩; have HB19 : Hid (Below wr.heap.size wr w19) := Lib.hid (Ha.out.trans (hb19.mono Ha.out.size)); clear hb19))
            have HB19w := Lib.hid (H78.out _ HB19.out)
            have CO2 := Lib.hid (CO1.out _ HB19w.out)
            have HX19 := Lib.hid (HXr.out _ HB19.out)
            clear x0 x1 x2 x3 x4 x5 x6 x7 CZ Ha mk CO1
            generalize hitK s si so sb m = hh at *
            obtain ⟨x0, x1, x2, x3, x4, x5, x6, x7⟩ := HX19.out
            go_wp2_with fail
            refine CO2.out.mono ?_
            rintro e w20 ⟨rfl, hb20⟩
            have HB20 := Lib.hid (HB19w.out.trans (hb20.mono HB19w.out.size))
            clear x0 x1 x2 x3 x4 x5 x6 x7 hb20 CO2 HX19 HXr HB19w HB19
            rcases hh with _ | _
            all_goals
              go_wp2
              go_roundw
              case rel => exact ⟨j + 1, by go_num, by omega, HB20⟩
              case measure => simp [intOf]; omega
    · obtain rfl : j = N.spurs.length := by omega
      have HEnd := Lib.hid (HBw7.out _ HB.out)
      go_wp2
      go_ret
      exact ⟨rfl, HEnd.out⟩
end Go.Proofs.YtcpoojlhfebcmaaDoor
