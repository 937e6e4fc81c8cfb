/- TokenMoves returns true. -/
import Derived.Test.YtfgpenekmokdiaaMzAT
import Derived.Test.YtfgpenekmokdiaaMzBE
import Derived.Test.YtfgpenekmokdiaaMzBG
namespace Go.Proofs.Ytfgpenekmokdiaa
open Go Go.RowKit Fl

theorem AtOk.more {g : GraphD} {ts : List Int} {x : Int} (h : AtOk g ts) (h0 : 0 ≤ x) (h1 : x < g.length) (hn : x ∉ ts) : AtOk g (ts ++ [x]) := by
  refine ⟨fun y hy => ?_, ?_⟩
  · rcases List.mem_append.1 hy with hy | hy
    · exact h.rng y hy
    · obtain rfl := List.mem_singleton.1 hy
      exact ⟨h0, h1⟩
  · rw [List.nodup_append]
    refine ⟨h.nodup, by simp, fun a ha b hb e => ?_⟩
    obtain rfl := List.mem_singleton.1 hb
    exact hn (e ▸ ha)
theorem AtOk.put {g : GraphD} {ts : List Int} {x : Int} {k : Nat} (h : AtOk g ts) (h0 : 0 ≤ x) (h1 : x < g.length) (hn : x ∉ ts) : AtOk g (ts.set k x) := by
  refine ⟨fun y hy => ?_, ?_⟩
  · rcases List.mem_or_eq_of_mem_set hy with hy | rfl
    · exact h.rng y hy
    · exact ⟨h0, h1⟩
  · rw [List.nodup_iff_pairwise_ne, List.pairwise_iff_getElem]
    intro i j hi hj hij e
    rw [List.length_set] at hi hj
    rw [List.getElem_set, List.getElem_set] at e
    have hp := List.pairwise_iff_getElem.1 (List.nodup_iff_pairwise_ne.1 h.nodup) i j hi hj hij
    split at e <;> split at e
    · omega
    · exact hn (e ▸ List.getElem_mem hj)
    · exact hn (e ▸ List.getElem_mem hi)
    · exact hp e
theorem play_step {g : GraphD} {ts : List Int} {x y : Int} {k : Nat} (hk : k < ts.length) (hx : ts[k] = x) (hy0 : 0 ≤ y) (hy1 : y < g.length) (hn : y ∉ ts) (he : y ∈ rowG g x.toNat) (h0 : 0 ≤ x) : play1 g ts ⟨k, x, y⟩ = some (ts.set k y) := by
  unfold play1
  rw [if_neg (by
    rintro (h | h | h)
    · simp only at h; omega
    · simp only at h; omega
    · exact hn h), if_neg (by rintro ⟨h, _⟩; simp only at h; omega), if_pos ⟨by simp only; omega, by simp only; omega, by simp only; rw [Fl.atI_get hk]; exact hx.symm, he⟩]
  simp
theorem play_add {g : GraphD} {ML : List MoveD} {ts r : List Int} {m : MoveD} (h : playL g [] ML = some ts) (h1 : play1 g ts m = some r) : playL g [] (ML ++ [m]) = some r := by
  rw [playL_append, h, Option.bind_some]
  simp only [playL]
  rw [h1]; rfl
theorem take_holds {w : World} {A : Option Addr} {ML : List MoveD} {q : Nat} (h : Holds w A (moveCells ML)) : Holds w A (moveCells (ML.take q)) := by
  rw [moveCells_take]
  exact Holds.takeG h _
set_option maxRecDepth 100000 in
set_option maxHeartbeats 8000000 in
theorem tokenMoves_c (hK : DevKnown12) (hR : DevReplayT) (C : Option Addr) (k : Nat) (zs : List Int) (cut : Int) (w : World) (hz : IntsAt w w.heap.size C zs) (hzl : zs.length ≤ maxLen) (hc1 : -9223372036854775808 ≤ cut) (hc2 : cut ≤ 9223372036854775807) :
    Calls Try.prog 9 #[.slice C zs.length k, .int .i64 cut] w fun e w' => e = .returned (.bool true) ∧ Below w.heap.size w w' := by
  have CK := Lib.hid (hK w)
  have HZ := Lib.hid hz
  have HL := Lib.hid hzl
  have hR := Lib.hid hR
  clear hK hz hzl
  go_enter Try.func9, Try.ntmps9
  go_wp2_with fail
  refine CK.out.mono ?_
  rintro e w1 ⟨rfl, hb1⟩
  have ht := tape_new (c := k) HZ.out (Nat.le_refl _) hb1 HL.out
  have hb2 : Below w.heap.size w (w1.alloc (.cells #[.slice C zs.length k, .int .i64 0] 27)) := hb1.alloc hb1.size _
  have HT2 := Lib.hid ht
  have hgB : w.heap.size ≤ w1.heap.size := hb1.size
  have HB2 := Lib.hid hb2
  have hsz2 : w1.heap.size < (w1.alloc (.cells #[.slice C zs.length k, .int .i64 0] 27)).heap.size := by simp
  clear hb1 ht hb2 CK HZ HL
  go_wp2_with fail
  refine (graph_c w.heap.size w1.heap.size _ 8 _ HT2.out (by omega) (by omega) hsz2).mono ?_
  rintro e w3 ⟨gv, g, rfl, hgl, hok, hown3, ht3, hst3⟩
  obtain ⟨A, c, rfl, _⟩ := hown3.at_
  have HV := Lib.hid (hok.valid (by omega))
  have HT3 := Lib.hid ht3
  have HO3 := Lib.hid hown3
  have HB3 := Lib.hid (HB2.out.trans (hst3.below HB2.out.size hgB))
  have hsz3 := Nat.lt_of_lt_of_le hsz2 hst3.size
  generalize w1.alloc (.cells #[.slice C zs.length k, .int .i64 0] 27) = w2 at *
  generalize w1.heap.size = gt at *
  clear hok ht3 hown3 hst3 HT2 HB2
  have hlow : gt < w2.heap.size := hsz2
  go_wp2_with fail
  refine (next_c w.heap.size gt _ 30 w3 HT3.out (by omega) (by omega) (by omega)).mono ?_
  rintro e w6 ⟨k0, hk0, rfl, ht6, hg6⟩
  have HT6 := Lib.hid ht6
  have HO6 := Lib.hid (HO3.out.but hg6 hlow)
  have HB6 := Lib.hid (HB3.out.trans ((Still.of_grown hg6 (Nat.le_refl _)).below HB3.out.size hgB))
  have hsz6 : gt < w6.heap.size := Nat.lt_of_lt_of_le hsz3 hg6.size
  clear ht6 hg6 HT3 HO3 HB3 hsz3 hsz2
  have hk30 : k0 < 30 := by omega
  clear hk0
  have HG := Lib.hid (fun k (hk : k < g.length) => rows_fix HO6.out hlow hk)
  have HM0 : Hid (MovS w6 w6 w.heap.size gt w6.heap.size (1002 + 4 * 0) (.slice none 0 0) (.slice none 0 0) [] []) := Lib.hid ⟨HT6.out.more (by omega), Still.refl _ _ _, World.ownsRow_nil _ _ _ _, World.ownsRow_nil _ _ _ _, hsz6, Nat.le_refl _, hgB⟩
  have hw30 : ((k0 : Nat) : Int) ≤ 30 := by omega
  clear HT6
  go_wp2
  go_loopw [7, 8, 9] (fun mv av k wr => ∃ (ML : List MoveD) (ts : List Int) (k' i : Nat), k = .int .i64 k' ∧ k' + i = k0 ∧ ML.length ≤ i ∧ Hid (playL g [] ML = some ts) ∧ Hid (AtOk g ts) ∧ Hid (MovS w6 wr w.heap.size gt w6.heap.size (1002 + 4 * i) mv av ML ts)) (fun _ _ k _ => (intOf k).toNat)
  case atStart => exact ⟨[], [], k0, 0, rfl, rfl, Nat.le_refl _, Lib.hid rfl, Lib.hid (AtOk.nil g), HM0⟩
  case round =>
    clear HM0
    obtain ⟨ML, ts, k, i, rfl, hki, hti, HP, HA, HM⟩ := hrel
    by_cases hk : 0 < k
    · by_cases hg0 : 0 < g.length
      · have hwk : IntKind.i64.wrap ((k : Int) - 1) = ((k - 1 : Nat) : Int) := by
          rw [show ((k - 1 : Nat) : Int) = (k : Int) - 1 by omega]
          exact IntWalk.i64_in _ (by omega)
        have h24 := HA.out.few HV.out
        obtain ⟨A8, c8, rfl, hcap8, hh8⟩ := own_cap HM.out.aown
        go_wp2_with fail
        refine (next_c w.heap.size gt _ g.length wr HM.out.tape (by omega) (by omega) (by omega)).mono ?_
        rintro e w2 ⟨v, hv', rfl, ht2, hg2⟩
        have HM2 := Lib.hid (HM.out.next ht2 hg2)
        have hv : v < g.length := by omega
        clear HM ht2 hg2 hh8 hv'
        go_upto_region 11 with fail
        have HX := Lib.hid (HM2.out.boxed (ts.length : Int) (-1) (v : Int))
        have hXe : ∃ X, X = w2.heap.size := ⟨_, rfl⟩
        generalize w2.alloc (.cells #[.int .i64 (ts.length : Int), .int .i64 (-1), .int .i64 (v : Int)] 42) = w3 at *
        obtain ⟨X, hX⟩ := hXe
        rw [← hX] at HX ⊢
        clear hX HM2
        clear w2
        by_cases h0 : 0 < ts.length
        · go_wp2_with fail
          refine (next_c w.heap.size gt _ 3 w3 HX.out.movs.tape (by omega) (by omega) (by omega)).mono ?_
          rintro e w4 ⟨r3, hr3, rfl, ht4, hg4⟩
          have HX4 := Lib.hid (HX.out.next ht4 hg4)
          clear HX ht4 hg4
          by_cases hz3 : 0 < r3
          · obtain ⟨q8, c9, h8, hq8, _⟩ := own_at HX4.out.movs.aown h0
            injection h8 with h8a h8n h8b
            clear h8n
            subst h8a h8b
            go_wp2_with fail
            refine (next_c w.heap.size gt _ ts.length w4 HX4.out.movs.tape (by omega) (by omega) (by omega)).mono ?_
            rintro e w5 ⟨tn, htn, rfl, ht5, hg5⟩
            have HX5 := Lib.hid (HX4.out.next ht5 hg5)
            have htl : tn < ts.length := by omega
            clear HX4 ht5 hg5 htn
            obtain ⟨⟨b0, b1, b2⟩, f0, f1, f2⟩ := HX5.out.cell
            go_upto_region 13 with fail
            have HX6 := Lib.hid (HX5.out.setK (k := 0) (v := (tn : Int)) (a' := (tn : Int)) (b' := -1) (c' := (v : Int)) (by rfl))
            generalize w5.setCell ⟨X, 0, none⟩ (.int .i64 (tn : Int)) = wb at *
            clear HX5 b0 b1 b2 f0 f1 f2
            clear w5
            obtain ⟨⟨b0, b1, b2⟩, f0, f1, f2⟩ := HX6.out.cell
            have e8 := (own_get HX6.out.movs.aown (i := tn) (u := Iv ts[tn]) (by rw [List.getElem?_map, List.getElem?_eq_getElem htl]; rfl)).1
            obtain ⟨xn, hxn⟩ := Int.eq_ofNat_of_zero_le (HA.out.rng _ (List.getElem_mem htl)).1
            have hxg : xn < g.length := by have := (HA.out.rng _ (List.getElem_mem htl)).2; omega
            have HXn := Lib.hid hxn
            rw [hxn] at e8
            clear hxn
            go_upto_region 14 with fail
            have HX7 := Lib.hid (HX6.out.setK (k := 1) (v := (xn : Int)) (a' := (tn : Int)) (b' := (xn : Int)) (c' := (v : Int)) (by rfl))
            generalize wb.setCell ⟨X, 1, none⟩ (.int .i64 (xn : Int)) = w7 at *
            clear HX6 b0 b1 b2 f0 f1 f2 e8
            clear wb
            obtain ⟨⟨b0, b1, b2⟩, f0, f1, f2⟩ := HX7.out.cell
            obtain ⟨bg, og, A1, cr, hA, hrow⟩ := HG.out xn hxg
            have hrl : g[xn].length ≤ 24 := validG_short HV.out _ (List.getElem_mem hxg)
            have HRw := Lib.hid hrow
            clear hrow f0 f1 f2
            subst hA
            obtain ⟨row, hrw⟩ : ∃ row, row = g[xn] := ⟨_, rfl⟩
            have HMem : Hid (∀ r (h : r < row.length), row[r] ∈ rowG g xn) := Lib.hid (fun r h => by rw [rowG_at hxg]; subst hrw; exact List.getElem_mem h)
            rw [← hrw] at HRw hrl
            clear hrw
            have rc := (HRw.out w7 HX7.out.movs.still).1
            by_cases hr0 : 0 < row.length
            · obtain ⟨bR, oR, hA1, _, _⟩ := (HRw.out w7 HX7.out.movs.still).2.at_ (by rw [List.length_map]; exact hr0)
              subst hA1
              have HSt : Hid (∀ W T' z, BoxM w6 W w.heap.size gt w6.heap.size T' X u7 (.slice (some ⟨q8, 0, none⟩) ts.length c8) ML ts tn xn z → (W.cell? ⟨X, 1, none⟩ = some (.int .i64 (xn : Int)) ∧ W.cell? ⟨X, 2, none⟩ = some (cellZ W ⟨X, 2, none⟩) ∧ W.frozen? ⟨X, 2, none⟩ = false) ∧ W.cell? ⟨bg, og + xn, none⟩ = some (.slice (some ⟨bR, oR, none⟩) row.length cr) ∧ ∀ r, r < row.length → W.cell? ⟨bR, oR + r, none⟩ = some (.int .i64 (atI row r))) := Lib.hid (fun W T' z hW => ⟨⟨hW.cell.1.2.1, cellZ_some hW.cell.1.2.2, hW.cell.2.2.2⟩, (HRw.out W hW.movs.still).1, fun r hr => by
                obtain ⟨b', o', hA, e⟩ := (HRw.out W hW.movs.still).2.iv hr
                injection hA with hA
                injection hA with q1 q2
                subst q1 q2
                rw [Fl.atI_get hr]
                exact e⟩)
              clear b0 b2
              have hr0i : ((row.length : Int) == 0) = false := by rw [beq_eq_false_iff_ne]; omega
              have hr0n : ¬ row.length = 0 := by omega
              go_wp2_with fail
              have HXd := Lib.hid HX7.out.drew
              have HIn : Hid (∀ r : Nat, (r : Int) < row.length → r < row.length) := Lib.hid (fun r hr => by omega)
              clear HX7
              go_region_held3 (fun W => (W.cell? ⟨X, 1, none⟩ = some (.int .i64 (xn : Int)) ∧ W.cell? ⟨X, 2, none⟩ = some (cellZ W ⟨X, 2, none⟩) ∧ W.frozen? ⟨X, 2, none⟩ = false) ∧ W.cell? ⟨bg, og + xn, none⟩ = some (.slice (some ⟨bR, oR, none⟩) row.length cr) ∧ ∀ r, r < row.length → W.cell? ⟨bR, oR + r, none⟩ = some (.int .i64 (atI row r))) (first | exact HSt.out _ _ _ HXd.out | exact HSt.out _ _ _ HX8.out | exact HSt.out _ _ _ (HX8.out.setK (k := 2) (v := atI row r) (a' := (tn : Int)) (b' := (xn : Int)) (c' := atI row r) (by rfl))) (first | (go_at_call 22; refine (next_c w.heap.size gt _ row.length _ HXd.out.movs.tape (by omega) (by omega) (by omega)).mono ?_; rintro e w8 ⟨r, hr, rfl, ht8, hg8⟩; have hrn := HIn.out r hr; have HX8 := Lib.hid (HXd.out.next ht8 hg8); clear ht8 hg8))
              all_goals
                have HX9 := Lib.hid (HX8.out.setK (k := 2) (v := atI row r) (a' := (tn : Int)) (b' := (xn : Int)) (c' := atI row r) (by rfl))
                have HY : Hid (atI row r ∈ rowG g xn) := Lib.hid (by rw [Fl.atI_get hrn]; exact HMem.out r hrn)
                generalize atI row r = y at *
                generalize w8.setCell ⟨X, 2, none⟩ (.int .i64 y) = w9 at *
                clear HXd HX8 HSt HRw rc hr0i hr0n b1
                clear w8
                obtain ⟨y0, y1, _⟩ := rowOk_row HV.out hxg y HY.out
                obtain ⟨A9, c9, h8, hh8⟩ := own_is HX9.out.movs.aown
                injection h8 with h8a h8n h8b
                clear h8n
                subst h8a h8b
                have CH := Lib.hid (has_c (some ⟨q8, 0, none⟩) c8 ts y w9 hh8 (by omega))
                obtain ⟨b0, b1, b2⟩ := box_cells HX9.out.box
                have hcz : cellZ w9 ⟨X, 2, none⟩ = .int .i64 y := by unfold cellZ; rw [b2]; rfl
                clear hh8
                by_cases hin : y ∈ ts
                · rw [decide_eq_true hin] at CH
                  go_wp2_with fail
                  refine CH.out.mono ?_
                  rintro e w10 ⟨rfl, rfl⟩
                  clear CH hin
                  go_wp2
                  go_roundw
                  case rel => exact ⟨ML, ts, k - 1, i + 1, by go_num, by omega, by omega, HP, HA, Lib.hid (HX9.out.movs.more (by omega))⟩
                  case measure => simp [intOf]; omega
                · rw [decide_eq_false hin] at CH
                  have HIn2 := Lib.hid hin
                  clear hin
                  go_wp2_with fail
                  refine CH.out.mono ?_
                  rintro e w10 ⟨rfl, rfl⟩
                  clear CH
                  obtain ⟨iM, hiM, hzM, hsM, hbM⟩ := info_parts Try.infoMove
                  have hszW := HX9.out.movs.size
                  go_wp2_with (at_builtin; refine wpList_append_own _ rfl _ _ 37 rfl w6.heap.size 42 iM (.agg #[.int .i64 0, .int .i64 0, .int .i64 0]) 3 24 Try.underlying37 hiM hzM hsM hbM rfl (by decide) _ _ _ rfl (HX9.out.movs.mown.alloc _) ⟨w9.heap.size, 0, none⟩ 1 1 [.int .i64 (tn : Int), .int .i64 (xn : Int), .int .i64 y] rfl rfl (World.news_of_block (heap_alloc_new _ _)) (by simp [Value.oneCell']) (by unfold maxLen; omega) (by omega) (by simp; omega) ?_)
                  intro v8 w10 own8 hg8 _
                  have hadd := HX9.out.addMove rfl own8 hg8
                  have HM8 := Lib.hid hadd.1
                  obtain ⟨d0, d1, d2⟩ := box_cells hadd.2
                  clear own8 hg8 hadd HX9 b0 b1 b2 hszW
                  have hnn : ¬ ((xn : Int) < 0) := by omega
                  have e9 := own_get HM8.out.aown (i := tn) (u := Iv ts[tn]) (by rw [List.getElem?_map, List.getElem?_eq_getElem htl]; rfl)
                  obtain ⟨e9a, e9b⟩ := e9
                  have HM9 := Lib.hid (HM8.out.setAt (i := tn) (z := y) rfl)
                  have HP9 := Lib.hid (play_add HP.out (play_step (g := g) (ts := ts) (x := (xn : Int)) (y := y) htl HXn.out y0 y1 HIn2.out HY.out (by omega)))
                  have HA9 := Lib.hid (HA.out.put (x := y) (k := tn) y0 y1 HIn2.out)
                  clear HM8 HP HA HXn
                  generalize ts[tn] = told at *
                  go_wp2
                  go_roundw
                  case rel => exact ⟨ML ++ [⟨tn, xn, y⟩], ts.set tn y, k - 1, i + 1, by go_num, by omega, by simp; omega, HP9, HA9, Lib.hid (HM9.out.more (by omega))⟩
                  case measure => simp [intOf]; omega
            · obtain rfl : row = [] := List.eq_nil_of_length_eq_zero (by omega)
              have rc0 : w7.cell? ⟨bg, og + xn, none⟩ = some (.slice A1 0 cr) := rc
              clear rc hr0
              go_wp2
              go_roundw
              case rel => exact ⟨ML, ts, k - 1, i + 1, by go_num, by omega, by omega, HP, HA, Lib.hid (HX7.out.movs.more (by omega))⟩
              case measure => simp [intOf]; omega
          · obtain rfl : r3 = 0 := by omega
            obtain ⟨A9, c9, h8, hh8⟩ := own_is HX4.out.movs.aown
            injection h8 with h8a h8n h8b
            clear h8n
            subst h8a h8b
            have CH := Lib.hid (has_c A8 c8 ts v w4 hh8 (by omega))
            obtain ⟨b0, b1, b2⟩ := box_cells HX4.out.box
            clear hh8
            by_cases hin : (v : Int) ∈ ts
            · rw [decide_eq_true hin] at CH
              go_wp2_with fail
              refine CH.out.mono ?_
              rintro e w5 ⟨rfl, rfl⟩
              clear CH hin
              go_wp2
              go_roundw
              case rel => exact ⟨ML, ts, k - 1, i + 1, by go_num, by omega, by omega, HP, HA, Lib.hid (HX4.out.movs.more (by omega))⟩
              case measure => simp [intOf]; omega
            · rw [decide_eq_false hin] at CH
              have HIn := Lib.hid hin
              clear hin
              go_wp2_with fail
              refine CH.out.mono ?_
              rintro e w5 ⟨rfl, rfl⟩
              clear CH
              obtain ⟨iM, hiM, hzM, hsM, hbM⟩ := info_parts Try.infoMove
              have hszW := HX4.out.movs.size
              go_wp2_with (at_builtin; refine wpList_append_own _ rfl _ _ 37 rfl w6.heap.size 42 iM (.agg #[.int .i64 0, .int .i64 0, .int .i64 0]) 3 24 Try.underlying37 hiM hzM hsM hbM rfl (by decide) _ _ _ rfl (HX4.out.movs.mown.alloc _) ⟨w4.heap.size, 0, none⟩ 1 1 [.int .i64 (ts.length : Int), .int .i64 (-1), .int .i64 (v : Int)] rfl rfl (World.news_of_block (heap_alloc_new _ _)) (by simp [Value.oneCell']) (by unfold maxLen; omega) (by omega) (by simp; omega) ?_)
              intro v8 w8 own8 hg8 _
              have hadd := HX4.out.addMove rfl own8 hg8
              have HM8 := Lib.hid hadd.1
              obtain ⟨d0, d1, d2⟩ := box_cells hadd.2
              have hsz8 := hadd.1.size
              clear own8 hg8 hadd HX4 b0 b1 b2 hszW
              go_wp2_with (at_builtin; refine app_int _ rfl _ _ rfl w6.heap.size _ _ _ rfl (HM8.out.aown.alloc _) w8.heap.size v rfl (by simp [go_sem]) (by omega) (by simp; omega) ?_)
              intro v9 w9 own9 hg9
              have HM9 := Lib.hid (HM8.out.addAt own9 hg9)
              have HP9 := Lib.hid (play_add HP.out (play_enter (g := g) (ts := ts) (x := (v : Int)) (by omega) (by omega) HIn.out))
              have HA9 := Lib.hid (HA.out.more (x := (v : Int)) (by omega) (by omega) HIn.out)
              clear own9 hg9 HM8 HP HA
              go_wp2
              go_roundw
              case rel => exact ⟨ML ++ [⟨(ts.length : Int), -1, v⟩], ts ++ [(v : Int)], k - 1, i + 1, by go_num, by omega, by simp; omega, HP9, HA9, Lib.hid (HM9.out.more (by omega))⟩
              case measure => simp [intOf]; omega
        · have h00 : ts.length = 0 := by omega
          obtain rfl : ts = [] := List.eq_nil_of_length_eq_zero (by omega)
          have HX0 : Hid (BoxM w6 w3 w.heap.size gt w6.heap.size (1002 + 4 * i + 1) X u7 (.slice A8 0 c8) ML [] 0 (-1) (v : Int)) := HX
          obtain ⟨A9, c9, h8, hh8⟩ := own_is HX0.out.movs.aown
          injection h8 with h8a h8n h8b
          clear h8n
          subst h8a h8b
          have CH : Hid (Calls Try.prog 32 #[.slice A8 0 c8, .int .i64 v] w3 fun e w' => e = .returned (.bool false) ∧ w3 = w') := Lib.hid (by
            refine (has_c A8 c8 [] v w3 hh8 (by decide)).mono ?_
            rintro e w' ⟨rfl, rfl⟩
            exact ⟨by simp, rfl⟩)
          obtain ⟨b0, b1, b2⟩ := box_cells HX0.out.box
          have hin : (v : Int) ∉ ([] : List Int) := by simp
          clear hh8 HX h0 h00 h24 hcap8
          have HIn := Lib.hid hin
          clear hin
          go_wp2_with fail
          refine CH.out.mono ?_
          rintro e w5 ⟨rfl, rfl⟩
          clear CH
          obtain ⟨iM, hiM, hzM, hsM, hbM⟩ := info_parts Try.infoMove
          have hszW := HX0.out.movs.size
          go_wp2_with (at_builtin; refine wpList_append_own _ rfl _ _ 37 rfl w6.heap.size 42 iM (.agg #[.int .i64 0, .int .i64 0, .int .i64 0]) 3 24 Try.underlying37 hiM hzM hsM hbM rfl (by decide) _ _ _ rfl (HX0.out.movs.mown.alloc _) ⟨w3.heap.size, 0, none⟩ 1 1 [.int .i64 0, .int .i64 (-1), .int .i64 (v : Int)] rfl rfl (World.news_of_block (heap_alloc_new _ _)) (by simp [Value.oneCell']) (by unfold maxLen; omega) (by omega) (by simp; omega) ?_)
          intro v8 w8 own8 hg8 _
          have hadd := HX0.out.addMove rfl own8 hg8
          have HM8 := Lib.hid hadd.1
          obtain ⟨d0, d1, d2⟩ := box_cells hadd.2
          have hsz8 := hadd.1.size
          clear own8 hg8 hadd HX0 b0 b1 b2 hszW
          go_wp2_with (at_builtin; refine app_int _ rfl _ _ rfl w6.heap.size _ _ _ rfl (HM8.out.aown.alloc _) w8.heap.size v rfl (by simp [go_sem]) (by simp) (by simp; omega) ?_)
          intro v9 w9 own9 hg9
          have HM9 := Lib.hid (HM8.out.addAt own9 hg9)
          have HP9 := Lib.hid (play_add HP.out (play_enter (g := g) (ts := []) (x := (v : Int)) (by omega) (by omega) HIn.out))
          have HA9 := Lib.hid (HA.out.more (x := (v : Int)) (by omega) (by omega) HIn.out)
          clear own9 hg9 HM8 HP HA
          go_wp2
          go_roundw
          case rel => exact ⟨ML ++ [⟨0, -1, v⟩], [] ++ [(v : Int)], k - 1, i + 1, by go_num, by omega, by simp; omega, HP9, HA9, Lib.hid (HM9.out.more (by omega))⟩
          case measure => simp [intOf]; omega
      · have hg00 : g.length = 0 := by omega
        have hml : ML.length ≤ 30 := by omega
        obtain ⟨A8, c8, rfl, hh8⟩ := own_is HM.out.aown
        have H8 := Lib.hid hh8
        have HOr := Lib.hid (HO6.out.but HM.out.still.asGrown hlow)
        have HBr := Lib.hid (HB6.out.trans (HM.out.still.below HB6.out.size hgB))
        have h24' := HA.out.few HV.out
        clear hh8
        rcases own_capM HM.out.mown with ⟨rfl, hn0⟩ | ⟨qm, cm, rfl, hcm, hhm⟩
        · obtain rfl : ML = [] := List.eq_nil_of_length_eq_zero hn0
          have Hm : Hid (Holds wr none (moveCells [])) := Lib.hid (.inl rfl)
          clear HM hn0 hml
          have C1 : Hid (Calls Try.prog 27 #[.slice A 0 c, .slice none 0 0] wr fun e w' => (∃ u, e = .returned (.tuple #[u, .int .i64 0]) ∧ w'.ownsRow wr.heap.size 3 1 u ts.length (ts.map Iv)) ∧ Below wr.heap.size wr w') := Lib.hid (by
            have h := hR.out A none c 0 g [] ts wr (rows_of HOr.out) HV.out Hm.out (by first | omega | simp) HP.out
            rw [hg00] at h
            exact h)
          go_wp2_with fail
          refine C1.out.mono ?_
          rintro e wa ⟨⟨u, rfl, hu⟩, hba⟩
          obtain ⟨Au, cu, rfl, hhu⟩ := own_is hu
          have HRa := Lib.hid (rows_of (HOr.out.keep hba))
          have H8a := Lib.hid (H8.out.keep hba)
          have Hma := Lib.hid (Hm.out.keep hba)
          have Hu := Lib.hid hhu
          have HBa := Lib.hid (HBr.out.trans (hba.mono HBr.out.size))
          clear hba hhu hu C1 HOr H8 Hm HBr

          go_wp2_with fail
          refine (cut_c cut 1 wa (by omega) (by omega) hc1 hc2).mono ?_
          rintro e wz ⟨q, hq, rfl, rfl⟩
          obtain rfl : q = 0 := by omega
          have C2 : Hid (Calls Try.prog 27 #[.slice A 0 c, .slice none 0 0] wa fun e w' => (∃ A' n' c', e = .returned (.tuple #[.slice A' n' c', .int .i64 0])) ∧ Below wa.heap.size wa w') := Lib.hid (by
            obtain ⟨r', hr'⟩ := play_prefix [] [] ts 0 HP.out
            have h := hR.out A none c 0 g ([].take 0) r' wa HRa.out HV.out (take_holds Hma.out) (by rw [List.length_take]; omega) hr'
            rw [List.length_take, Nat.min_eq_left (by first | omega | simp)] at h
            rw [hg00] at h
            refine h.mono ?_
            rintro e w' ⟨⟨u, rfl, hu⟩, hb⟩
            obtain ⟨A', c', rfl, _⟩ := own_is hu
            exact ⟨⟨A', _, c', rfl⟩, hb⟩)
          go_wp2_with fail
          refine C2.out.mono ?_
          rintro e wb ⟨⟨A', n', c', rfl⟩, hbb⟩
          have H8b := Lib.hid (H8a.out.keep hbb)
          have Hub := Lib.hid (Hu.out.keep hbb)
          have HBb := Lib.hid (HBa.out.trans (hbb.mono HBa.out.size))
          clear hbb C2
          go_wp2_with fail
          refine (sameIntsE_c Au A8 cu c8 ts wb Hub.out H8b.out (by omega)).mono ?_
          rintro e wz ⟨rfl, n, rfl⟩
          go_wp2
          go_ret
          exact ⟨rfl, below_drewN HBb.out n⟩
        · have Hm := Lib.hid hhm
          clear HM hhm
          have C1 : Hid (Calls Try.prog 27 #[.slice A 0 c, .slice (some ⟨qm, 0, none⟩) ML.length cm] wr fun e w' => (∃ u, e = .returned (.tuple #[u, .int .i64 0]) ∧ w'.ownsRow wr.heap.size 3 1 u ts.length (ts.map Iv)) ∧ Below wr.heap.size wr w') := Lib.hid (by
            have h := hR.out A (some ⟨qm, 0, none⟩) c cm g ML ts wr (rows_of HOr.out) HV.out Hm.out (by first | omega | simp) HP.out
            rw [hg00] at h
            exact h)
          go_wp2_with fail
          refine C1.out.mono ?_
          rintro e wa ⟨⟨u, rfl, hu⟩, hba⟩
          obtain ⟨Au, cu, rfl, hhu⟩ := own_is hu
          have HRa := Lib.hid (rows_of (HOr.out.keep hba))
          have H8a := Lib.hid (H8.out.keep hba)
          have Hma := Lib.hid (Hm.out.keep hba)
          have Hu := Lib.hid hhu
          have HBa := Lib.hid (HBr.out.trans (hba.mono HBr.out.size))
          clear hba hhu hu C1 HOr H8 Hm HBr
          have hw1 : IntKind.i64.wrap ((ML.length : Int) + 1) = (ML.length : Int) + 1 := IntWalk.i64_in _ (by omega)
          go_wp2_with fail
          refine (cut_c cut ((ML.length : Int) + 1) wa (by omega) (by omega) hc1 hc2).mono ?_
          rintro e wz ⟨q, hq, rfl, rfl⟩
          have hqc : q ≤ cm := by omega
          have hql : q ≤ ML.length := by omega
          have C2 : Hid (Calls Try.prog 27 #[.slice A 0 c, .slice (some ⟨qm, 0, none⟩) q cm] wa fun e w' => (∃ A' n' c', e = .returned (.tuple #[.slice A' n' c', .int .i64 0])) ∧ Below wa.heap.size wa w') := Lib.hid (by
            obtain ⟨r', hr'⟩ := play_prefix ML [] ts q HP.out
            have h := hR.out A (some ⟨qm, 0, none⟩) c cm g (ML.take q) r' wa HRa.out HV.out (take_holds Hma.out) (by rw [List.length_take]; omega) hr'
            rw [List.length_take, Nat.min_eq_left (by first | omega | simp)] at h
            rw [hg00] at h
            refine h.mono ?_
            rintro e w' ⟨⟨u, rfl, hu⟩, hb⟩
            obtain ⟨A', c', rfl, _⟩ := own_is hu
            exact ⟨⟨A', _, c', rfl⟩, hb⟩)
          go_wp2_with fail
          refine C2.out.mono ?_
          rintro e wb ⟨⟨A', n', c', rfl⟩, hbb⟩
          have H8b := Lib.hid (H8a.out.keep hbb)
          have Hub := Lib.hid (Hu.out.keep hbb)
          have HBb := Lib.hid (HBa.out.trans (hbb.mono HBa.out.size))
          clear hbb C2
          go_wp2_with fail
          refine (sameIntsE_c Au A8 cu c8 ts wb Hub.out H8b.out (by omega)).mono ?_
          rintro e wz ⟨rfl, n, rfl⟩
          go_wp2
          go_ret
          exact ⟨rfl, below_drewN HBb.out n⟩
    · obtain rfl : k = 0 := by omega
      have hml : ML.length ≤ 30 := by omega
      obtain ⟨A8, c8, rfl, hh8⟩ := own_is HM.out.aown
      have H8 := Lib.hid hh8
      have HOr := Lib.hid (HO6.out.but HM.out.still.asGrown hlow)
      have HBr := Lib.hid (HB6.out.trans (HM.out.still.below HB6.out.size hgB))
      have h24' := HA.out.few HV.out
      clear hh8
      rcases own_capM HM.out.mown with ⟨rfl, hn0⟩ | ⟨qm, cm, rfl, hcm, hhm⟩
      · obtain rfl : ML = [] := List.eq_nil_of_length_eq_zero hn0
        have Hm : Hid (Holds wr none (moveCells [])) := Lib.hid (.inl rfl)
        clear HM hn0 hml
        have C1 : Hid (Calls Try.prog 27 #[.slice A g.length c, .slice none 0 0] wr fun e w' => (∃ u, e = .returned (.tuple #[u, .int .i64 0]) ∧ w'.ownsRow wr.heap.size 3 1 u ts.length (ts.map Iv)) ∧ Below wr.heap.size wr w') := Lib.hid (by
          have h := hR.out A none c 0 g [] ts wr (rows_of HOr.out) HV.out Hm.out (by first | omega | simp) HP.out
          skip
          exact h)
        go_wp2_with fail
        refine C1.out.mono ?_
        rintro e wa ⟨⟨u, rfl, hu⟩, hba⟩
        obtain ⟨Au, cu, rfl, hhu⟩ := own_is hu
        have HRa := Lib.hid (rows_of (HOr.out.keep hba))
        have H8a := Lib.hid (H8.out.keep hba)
        have Hma := Lib.hid (Hm.out.keep hba)
        have Hu := Lib.hid hhu
        have HBa := Lib.hid (HBr.out.trans (hba.mono HBr.out.size))
        clear hba hhu hu C1 HOr H8 Hm HBr

        go_wp2_with fail
        refine (cut_c cut 1 wa (by omega) (by omega) hc1 hc2).mono ?_
        rintro e wz ⟨q, hq, rfl, rfl⟩
        obtain rfl : q = 0 := by omega
        have C2 : Hid (Calls Try.prog 27 #[.slice A g.length c, .slice none 0 0] wa fun e w' => (∃ A' n' c', e = .returned (.tuple #[.slice A' n' c', .int .i64 0])) ∧ Below wa.heap.size wa w') := Lib.hid (by
          obtain ⟨r', hr'⟩ := play_prefix [] [] ts 0 HP.out
          have h := hR.out A none c 0 g ([].take 0) r' wa HRa.out HV.out (take_holds Hma.out) (by rw [List.length_take]; omega) hr'
          rw [List.length_take, Nat.min_eq_left (by first | omega | simp)] at h
          skip
          refine h.mono ?_
          rintro e w' ⟨⟨u, rfl, hu⟩, hb⟩
          obtain ⟨A', c', rfl, _⟩ := own_is hu
          exact ⟨⟨A', _, c', rfl⟩, hb⟩)
        go_wp2_with fail
        refine C2.out.mono ?_
        rintro e wb ⟨⟨A', n', c', rfl⟩, hbb⟩
        have H8b := Lib.hid (H8a.out.keep hbb)
        have Hub := Lib.hid (Hu.out.keep hbb)
        have HBb := Lib.hid (HBa.out.trans (hbb.mono HBa.out.size))
        clear hbb C2
        go_wp2_with fail
        refine (sameIntsE_c Au A8 cu c8 ts wb Hub.out H8b.out (by omega)).mono ?_
        rintro e wz ⟨rfl, n, rfl⟩
        go_wp2
        go_ret
        exact ⟨rfl, below_drewN HBb.out n⟩
      · have Hm := Lib.hid hhm
        clear HM hhm
        have C1 : Hid (Calls Try.prog 27 #[.slice A g.length c, .slice (some ⟨qm, 0, none⟩) ML.length cm] wr fun e w' => (∃ u, e = .returned (.tuple #[u, .int .i64 0]) ∧ w'.ownsRow wr.heap.size 3 1 u ts.length (ts.map Iv)) ∧ Below wr.heap.size wr w') := Lib.hid (by
          have h := hR.out A (some ⟨qm, 0, none⟩) c cm g ML ts wr (rows_of HOr.out) HV.out Hm.out (by first | omega | simp) HP.out
          skip
          exact h)
        go_wp2_with fail
        refine C1.out.mono ?_
        rintro e wa ⟨⟨u, rfl, hu⟩, hba⟩
        obtain ⟨Au, cu, rfl, hhu⟩ := own_is hu
        have HRa := Lib.hid (rows_of (HOr.out.keep hba))
        have H8a := Lib.hid (H8.out.keep hba)
        have Hma := Lib.hid (Hm.out.keep hba)
        have Hu := Lib.hid hhu
        have HBa := Lib.hid (HBr.out.trans (hba.mono HBr.out.size))
        clear hba hhu hu C1 HOr H8 Hm HBr
        have hw1 : IntKind.i64.wrap ((ML.length : Int) + 1) = (ML.length : Int) + 1 := IntWalk.i64_in _ (by omega)
        go_wp2_with fail
        refine (cut_c cut ((ML.length : Int) + 1) wa (by omega) (by omega) hc1 hc2).mono ?_
        rintro e wz ⟨q, hq, rfl, rfl⟩
        have hqc : q ≤ cm := by omega
        have hql : q ≤ ML.length := by omega
        have C2 : Hid (Calls Try.prog 27 #[.slice A g.length c, .slice (some ⟨qm, 0, none⟩) q cm] wa fun e w' => (∃ A' n' c', e = .returned (.tuple #[.slice A' n' c', .int .i64 0])) ∧ Below wa.heap.size wa w') := Lib.hid (by
          obtain ⟨r', hr'⟩ := play_prefix ML [] ts q HP.out
          have h := hR.out A (some ⟨qm, 0, none⟩) c cm g (ML.take q) r' wa HRa.out HV.out (take_holds Hma.out) (by rw [List.length_take]; omega) hr'
          rw [List.length_take, Nat.min_eq_left (by first | omega | simp)] at h
          skip
          refine h.mono ?_
          rintro e w' ⟨⟨u, rfl, hu⟩, hb⟩
          obtain ⟨A', c', rfl, _⟩ := own_is hu
          exact ⟨⟨A', _, c', rfl⟩, hb⟩)
        go_wp2_with fail
        refine C2.out.mono ?_
        rintro e wb ⟨⟨A', n', c', rfl⟩, hbb⟩
        have H8b := Lib.hid (H8a.out.keep hbb)
        have Hub := Lib.hid (Hu.out.keep hbb)
        have HBb := Lib.hid (HBa.out.trans (hbb.mono HBa.out.size))
        clear hbb C2
        go_wp2_with fail
        refine (sameIntsE_c Au A8 cu c8 ts wb Hub.out H8b.out (by omega)).mono ?_
        rintro e wz ⟨rfl, n, rfl⟩
        go_wp2
        go_ret
        exact ⟨rfl, below_drewN HBb.out n⟩
end Go.Proofs.Ytfgpenekmokdiaa
