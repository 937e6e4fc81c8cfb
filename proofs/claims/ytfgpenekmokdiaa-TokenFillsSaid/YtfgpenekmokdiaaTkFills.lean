/- TokenFills returns true. -/
import Derived.Test.YtfgpenekmokdiaaTkFillsP
namespace Go.Proofs.Ytfgpenekmokdiaa
open Go Go.RowKit Fl

theorem own_get3 {w : World} {base n g cap i : Nat} {e : TypeId} {xs : List Value} (h : w.ownsRow base e 3 (.slice (some ⟨g, 0, none⟩) n cap) n xs) {u : Value} (hu : xs[i]? = some u) : w.cell? ⟨g, i, none⟩ = some u ∧ w.frozen? ⟨g, i, none⟩ = false := by
  obtain ⟨h1, h2⟩ := h
  rcases h2 with ⟨hv, _⟩ | ⟨g', cap', cur, hv, hg, hh, hnc, hcm, hcs, hx⟩
  · cases hv
  · injection hv with hA _ hc
    injection hA with hA
    injection hA with hA _ _
    subst hA hc
    constructor
    · rw [cell_of_row w g _ _ _ _ hh, ← Array.getElem?_toList]
      have h3 : (cur.toList.take (n * 3))[i]? = some u := by rw [hx]; exact hu
      rw [List.getElem?_take] at h3
      split at h3
      · exact h3
      · cases h3
    · simp [World.frozen?, hh]
theorem own_set3 {w : World} {base g n cap i : Nat} {e : TypeId} {xs : List Value} {v : Value} (h : w.ownsRow base e 3 (.slice (some ⟨g, 0, none⟩) n cap) n xs) : (w.setCell ⟨g, i, none⟩ v).ownsRow base e 3 (.slice (some ⟨g, 0, none⟩) n cap) n (xs.set i v) := by
  obtain ⟨h1, h2⟩ := h
  rcases h2 with ⟨hv, _⟩ | ⟨g', cap', cur, hv, hg, hh, hnc, hcm, hcs, hx⟩
  · cases hv
  · injection hv with hA _ hc
    injection hA with hA
    injection hA with hA
    subst hA hc
    refine ⟨by simpa using h1, .inr ⟨g, cap, cur.setIfInBounds i v, rfl, hg, ?_, hnc, hcm, by simpa using hcs, ?_⟩⟩
    · simp [World.setCell, Array.getElem?_modify]
      exact ⟨_, hh, by simp⟩
    · rw [← hx]; simp [List.take_set]
theorem cells_set : ∀ (l : List MoveD) (k : Nat) (m : MoveD), moveCells (l.set k m) = (((moveCells l).set (k * 3) (Iv m.tok)).set (k * 3 + 1) (Iv m.frm)).set (k * 3 + 2) (Iv m.dst)
  | [], _, _ => rfl
  | x :: l, 0, m => rfl
  | x :: l, k + 1, m => by
    rw [show (k + 1) * 3 = k * 3 + 1 + 1 + 1 by omega]
    simp only [List.set_cons_succ, moveCells]
    rw [cells_set l k m]
/-- One move put into a list of moves of the call's own. -/
theorem own_move {w : World} {base g n cap k : Nat} {l : List MoveD} {a b c : Int} (h : w.ownsRow base 42 3 (.slice (some ⟨g, 0, none⟩) n cap) n (moveCells l)) :
    (((w.setCell ⟨g, k * 3, none⟩ (Iv a)).setCell ⟨g, k * 3 + 1, none⟩ (Iv b)).setCell ⟨g, k * 3 + 2, none⟩ (Iv c)).ownsRow base 42 3 (.slice (some ⟨g, 0, none⟩) n cap) n (moveCells (l.set k ⟨a, b, c⟩)) := by
  rw [cells_set]
  exact own_set3 (own_set3 (own_set3 h))
theorem still_set {gt U q k : Nat} {w w' : World} {v : Value} (h : Still gt U w w') (hq : U ≤ q) : Still gt U w (w'.setCell ⟨q, k, none⟩ v) :=
  h.trans ⟨rfl, rfl, rfl, by simp [World.setCell], fun j hj _ => Below.heap_setCell _ _ _ _ (fun e => by have e' : j = q := e; omega)⟩
theorem tape_set {B gt T q k : Nat} {w : World} {v : Value} (h : TapeOk w B gt T) (hq : gt < q) (hB : B ≤ q) : TapeOk (w.setCell ⟨q, k, none⟩ v) B gt T :=
  h.grown (row := some q) ⟨rfl, rfl, rfl, by simp [World.setCell], fun j hj hne => Below.heap_setCell _ _ _ _ (fun e => hne (by rw [e]))⟩ (fun e => by injection e with e; omega) (fun j hj => by injection hj with hj; omega)
set_option maxRecDepth 100000 in
set_option maxHeartbeats 8000000 in
theorem tokenFills_c (A A1 C : Option Addr) (c c1 k : Nat) (g : GraphD) (ms : List MoveD) (v : Int) (zs : List Int) (w : World) (hg : RowsAt w A g) (h1 : Holds w A1 (moveCells ms)) (hml : ms.length ≤ 1000000000000000000) (hz : IntsAt w w.heap.size C zs) (hzl : zs.length ≤ maxLen) (hsz : Sized g) :
    Calls Try.prog 4 #[.slice A g.length c, .slice A1 ms.length c1, .int .i64 v, .slice C zs.length k] w fun e w' => e = .returned (.bool true) ∧ Below w.heap.size w w' := by
  have CK := Lib.hid (known12_c w)
  have H0 : Hid (Fills12 w (.slice A g.length c) (.slice A1 ms.length c1) (.int .i64 v)) := Lib.hid ⟨A, A1, c, c1, g, ms, v, rfl, rfl, rfl, hg, h1, hsz, hml⟩
  have HZ := Lib.hid hz
  have HL := Lib.hid hzl
  clear hg h1 hz hzl hsz hml
  go_enter Try.func4, Try.ntmps4
  go_wp2_with fail
  refine CK.out.mono ?_
  rintro e w1 ⟨rfl, hb1⟩
  have ht := tape_new (c := k) HZ.out (Nat.le_refl _) hb1 HL.out
  have hb2 : Below w.heap.size w (w1.alloc (.cells #[.slice C zs.length k, .int .i64 0] 27)) := hb1.alloc hb1.size _
  have HT2 := Lib.hid ht
  have H2 := Lib.hid (H0.out.keep hb2)
  have hgB : w.heap.size ≤ w1.heap.size := hb1.size
  have HB2 := Lib.hid hb2
  have hsz2 : w1.heap.size < (w1.alloc (.cells #[.slice C zs.length k, .int .i64 0] 27)).heap.size := by simp
  clear hb1 ht hb2 H0 CK HZ HL
  go_wp2
  go_loopw [0, 1, 2, 10] (fun raw mv vv i wr => ∃ n : Nat, i = .int .i64 n ∧ n ≤ 2 ∧ Hid (Fills12 wr raw mv vv) ∧ Hid (TapeOk wr w.heap.size w1.heap.size (2000 * n)) ∧ Hid (Below w.heap.size w wr) ∧ w1.heap.size < wr.heap.size) (fun _ _ _ i _ => 2 - (intOf i).toNat)
  case atStart => exact ⟨0, rfl, by omega, H2, HT2, HB2, hsz2⟩
  case round =>
    clear HT2 H2 HB2 hsz2
    obtain ⟨n, rfl, hn, HFi, HT_0, HB_0, hsz_0⟩ := hrel
    by_cases hn2 : n < 2
    · go_upto_if 36 with fail
      go_cut [0, 1, 2, 11] from 31 to 149 (fun raw mv vv _ wx => Hid (Fills12 wx raw mv vv) ∧ Hid (TapeOk wx w.heap.size w1.heap.size (2000 * (n + 1))) ∧ Hid (Below w.heap.size w wx) ∧ w1.heap.size < wx.heap.size)
      case first =>
        have hcase : n = 0 ∨ n = 1 := by omega
        clear hn hn2
        rcases hcase with rfl | rfl
        · go_wp2_with fail
          go_meet
          case rel => exact ⟨HFi, Lib.hid (HT_0.out.more (by omega)), HB_0, hsz_0⟩
        · clear HFi
          go_wp2_with fail
          refine (graph_c w.heap.size w1.heap.size _ 9 wr HT_0.out (by omega) (by omega) hsz_0).mono ?_
          rintro e w3 ⟨gv, g', rfl, hg10, hok, hown3, ht3, hst3⟩
          obtain ⟨A', c', rfl, _⟩ := hown3.at_
          have HV := Lib.hid (hok.valid (by omega))
          have HT3 := Lib.hid ht3
          have HO3 := Lib.hid hown3
          have HB3 := Lib.hid (HB_0.out.trans (hst3.below HB_0.out.size hgB))
          have hsz3 := Nat.lt_of_lt_of_le hsz_0 hst3.size
          clear hok ht3 hown3 hst3 HT_0 HB_0
          go_wp2_with fail
          refine (nextLen_c w.heap.size w1.heap.size _ g'.length w3 HT3.out (by omega) (by omega)).mono ?_
          rintro e w4 ⟨v', hv', rfl, ht4, hg4⟩
          have HT4 := Lib.hid ht4
          have HO4 := Lib.hid (HO3.out.but hg4 hsz_0)
          have HB4 := Lib.hid (HB3.out.trans ((Still.of_grown hg4 (Nat.le_refl _)).below HB3.out.size hgB))
          have hsz4 : w1.heap.size < w4.heap.size := Nat.lt_of_lt_of_le hsz3 hg4.size
          clear ht4 hg4 HT3 HO3 HB3
          go_wp2_with fail
          refine (refFill_c A' c' v' g' w4 (rows_of HO4.out) (Sized.valid HV.out)).mono ?_
          rintro e w5 ⟨hb5, hp⟩
          obtain ⟨u, rfl, hou⟩ := hp.own
          clear hp
          have HT5 := Lib.hid (HT4.out.keep hb5)
          have HS5 : Hid (Still w1.heap.size w4.heap.size w4 w5) := Lib.hid (Still.of_below hb5)
          have HB5 := Lib.hid (HB4.out.trans (hb5.mono HB4.out.size))
          have hL := fiO_len g' (v' : Int)
          have hsz5 := Nat.lt_of_lt_of_le hsz4 hb5.size
          have HOu := Lib.hid hou
          clear hb5 hou HT4
          generalize fiO g' (v' : Int) = L at *
          have HEnd : Hid (∀ (wx : World) (A1' : Option Addr) (c1' : Nat) (l : List MoveD), Still w1.heap.size w4.heap.size w4 wx → Holds wx A1' (moveCells l) → l.length ≤ 1200 → Fills12 wx (.slice A' g'.length c') (.slice A1' l.length c1') (.int .i64 v') ∧ Below w.heap.size w wx ∧ w1.heap.size < wx.heap.size) := Lib.hid (fun wx A1' c1' l hs hh hl => ⟨⟨A', A1', c', c1', g', l, v', rfl, rfl, rfl, rows_of (HO4.out.but hs.asGrown hsz_0), hh, Sized.valid HV.out, by omega⟩, HB4.out.trans (hs.below HB4.out.size hgB), Nat.lt_of_lt_of_le hsz4 hs.size⟩)
          rcases own_capM HOu.out with ⟨rfl, hn0⟩ | ⟨q, cap, rfl, hcap, hhq⟩
          · obtain rfl : L = [] := List.eq_nil_of_length_eq_zero hn0
            go_wp2_with fail
            go_meet
            case rel =>
              obtain ⟨z1, z2, z3⟩ := HEnd.out w5 none 0 [] HS5.out (.inl rfl) (by simp)
              exact ⟨Lib.hid z1, Lib.hid (HT5.out.more (by omega)), Lib.hid z2, z3⟩
          · have HQ := Lib.hid hhq
            clear hhq
            by_cases hl0 : 0 < L.length
            · go_wp2_with fail
              refine (next_c w.heap.size w1.heap.size _ 2 w5 HT5.out (by omega) (by omega) (by omega)).mono ?_
              rintro e w6 ⟨r2, hr2, rfl, ht6, hg6⟩
              have HT6 := Lib.hid ht6
              have HS6 := Lib.hid (HS5.out.trans (Still.of_grown hg6 (by have := HS5.out.size; omega)))
              have HO6 := Lib.hid (own_but3M HOu.out hg6 hsz4)
              clear ht6 hg6 HT5 HS5 HOu HQ
              by_cases hr0 : 0 < r2
              · have hr1 : ((r2 : Int) == 0) = false := by rw [beq_eq_false_iff_ne]; omega
                have hrn : ¬ r2 = 0 := by omega
                go_wp2_with fail
                go_meet
                case rel =>
                  rcases own_capM HO6.out with ⟨h, _⟩ | ⟨q2, cap2, h, _, hh2⟩
                  · cases h
                  · injection h with h4 h5 h6
                    rw [← h4] at hh2
                    obtain ⟨z1, z2, z3⟩ := HEnd.out w6 (some ⟨q, 0, none⟩) cap L HS6.out hh2 hL
                    exact ⟨Lib.hid z1, Lib.hid (HT6.out.more (by omega)), Lib.hid z2, z3⟩
              · obtain rfl : r2 = 0 := by omega
                go_wp2_with fail
                refine (next_c w.heap.size w1.heap.size _ L.length w6 HT6.out (by omega) (by omega) (by omega)).mono ?_
                rintro e w7 ⟨kn, hkn, rfl, ht7, hg7⟩
                have HT7 := Lib.hid ht7
                have HS7 := Lib.hid (HS6.out.trans (Still.of_grown hg7 (by have := HS6.out.size; omega)))
                have HO7 := Lib.hid (own_but3M HO6.out hg7 hsz4)
                have hkl : kn < L.length := by omega
                clear ht7 hg7 HT6 HS6 HO6 hkn
                go_wp2_with fail
                refine (next_c w.heap.size w1.heap.size _ 4 w7 HT7.out (by omega) (by omega) (by omega)).mono ?_
                rintro e w8 ⟨r4, hr4, rfl, ht8, hg8⟩
                have HT8 := Lib.hid ht8
                have HS8 := Lib.hid (HS7.out.trans (Still.of_grown hg8 (by have := HS7.out.size; omega)))
                have HO8 := Lib.hid (own_but3M HO7.out hg8 hsz4)
                clear ht8 hg8 HT7 HS7 HO7
                have hwg : IntKind.i64.wrap ((g'.length : Int) + 1) = (g'.length : Int) + 1 := IntWalk.i64_in _ (by omega)
                go_wp2_with fail
                refine (next_c w.heap.size w1.heap.size _ ((g'.length : Int) + 1) w8 HT8.out (by omega) (by omega) (by omega)).mono ?_
                rintro e w9 ⟨rg, hrg, rfl, ht9, hg9⟩
                have HT9 := Lib.hid ht9
                have HS9 := Lib.hid (HS8.out.trans (Still.of_grown hg9 (by have := HS8.out.size; omega)))
                have HO9 := Lib.hid (own_but3M HO8.out hg9 hsz4)
                clear ht9 hg9 HT8 HS8 HO8
                have hwr : IntKind.i64.wrap ((rg : Int) - 1) = (rg : Int) - 1 := IntWalk.i64_in _ (by omega)
                go_wp2_with fail
                refine (nextLen_c w.heap.size w1.heap.size _ g'.length w9 HT9.out (by omega) (by omega)).mono ?_
                rintro e w10 ⟨rd, hrd, rfl, ht10, hg10'⟩
                have HT10 := Lib.hid ht10
                have HS10 := Lib.hid (HS9.out.trans (Still.of_grown hg10' (by have := HS9.out.size; omega)))
                have HO10 := Lib.hid (own_but3M HO9.out hg10' hsz4)
                clear ht10 hg10' HT9 HS9 HO9
                have hob := HO10.out.lt q rfl
                obtain ⟨j0, j1, j2⟩ := moveCells_at hkl
                obtain ⟨e0, f0⟩ := own_get3 HO10.out j0
                obtain ⟨e1, f1⟩ := own_get3 HO10.out j1
                obtain ⟨e2, f2⟩ := own_get3 HO10.out j2
                clear j0 j1 j2
                generalize L[kn] = mo at *
                go_wp2_with fail
                go_meet
                case rel =>
                  have hqb := hob.1
                  have hs := still_set (q := q) (k := kn * 3 + 2) (v := Iv rd) (still_set (q := q) (k := kn * 3 + 1) (v := Iv ((rg : Int) - 1)) (still_set (q := q) (k := kn * 3) (v := Iv r4) HS10.out hqb) hqb) hqb
                  have ht := tape_set (q := q) (k := kn * 3 + 2) (v := Iv rd) (tape_set (q := q) (k := kn * 3 + 1) (v := Iv ((rg : Int) - 1)) (tape_set (q := q) (k := kn * 3) (v := Iv r4) HT10.out (by omega) (by omega)) (by omega) (by omega)) (by omega) (by omega)
                  rcases own_capM (own_move (k := kn) (a := r4) (b := (rg : Int) - 1) (c := rd) HO10.out) with ⟨h, _⟩ | ⟨q2, cap2, h, _, hh2⟩
                  · cases h
                  · injection h with h4 h5 h6
                    rw [← h4] at hh2
                    have hl2 : (L.set kn ⟨r4, (rg : Int) - 1, rd⟩).length = L.length := List.length_set ..
                    obtain ⟨z1, z2, z3⟩ := HEnd.out _ (some ⟨q, 0, none⟩) cap _ hs hh2 (by rw [hl2]; exact hL)
                    rw [hl2] at z1
                    exact ⟨Lib.hid z1, Lib.hid (ht.more (by omega)), Lib.hid z2, z3⟩
            · have hl00 : L.length = 0 := by omega
              obtain rfl : L = [] := List.eq_nil_of_length_eq_zero hl00
              go_wp2_with fail
              go_meet
              case rel =>
                obtain ⟨z1, z2, z3⟩ := HEnd.out w5 (some ⟨q, 0, none⟩) cap [] HS5.out (.inl rfl) (by simp)
                exact ⟨Lib.hid z1, Lib.hid (HT5.out.more (by omega)), Lib.hid z2, z3⟩
      case rest =>
        clear HFi HT_0 HB_0 hsz_0
        obtain ⟨HF, HT_0, HB_0, hsz_0⟩ := hcut
        obtain ⟨A', A1', c', c1', g', ms', v', rfl, rfl, rfl, hg', h1', hz', hml'⟩ := HF.out
        have HRg_0 := Lib.hid hg'
        have HM_0 := Lib.hid h1'
        have HZ := Lib.hid hz'
        clear hg' h1' hz' HF
        go_wp2_with fail
        refine (devTight_c A' c' g' _ HRg_0.out HZ.out).mono ?_
        rintro e v1 hp
        obtain ⟨Q0a, q0a, Q0b, q0b, rfl, hra, hrb, hb⟩ := hp.res
        clear hp
        have HVa0_1 := Lib.hid hra
        have HVb0_1 := Lib.hid hrb
        clear hra hrb
        have HRg_1 := Lib.hid (HRg_0.out.keep hb)
        have HM_1 := Lib.hid (HM_0.out.keep hb)
        have HT_1 := Lib.hid (HT_0.out.keep hb)
        have HB_1 := Lib.hid (HB_0.out.trans (hb.mono HB_0.out.size))
        have hsz_1 := Nat.lt_of_lt_of_le hsz_0 hb.size
        clear HRg_0 HM_0 HT_0 HB_0 hsz_0 hb
        go_wp2_with fail
        refine (refTight_c A' c' g' _ HRg_1.out HZ.out.1 HZ.out.2).mono ?_
        rintro e v2 hp
        obtain ⟨Q1a, q1a, Q1b, q1b, rfl, hra, hrb, hb⟩ := hp.res
        clear hp
        have HVa1_2 := Lib.hid hra
        have HVb1_2 := Lib.hid hrb
        clear hra hrb
        have HRg_2 := Lib.hid (HRg_1.out.keep hb)
        have HM_2 := Lib.hid (HM_1.out.keep hb)
        have HT_2 := Lib.hid (HT_1.out.keep hb)
        have HVa0_2 := Lib.hid (HVa0_1.out.keep hb)
        have HVb0_2 := Lib.hid (HVb0_1.out.keep hb)
        have HB_2 := Lib.hid (HB_1.out.trans (hb.mono HB_1.out.size))
        have hsz_2 := Nat.lt_of_lt_of_le hsz_1 hb.size
        clear HRg_1 HM_1 HT_1 HB_1 HVa0_1 HVb0_1 hsz_1 hb
        go_wp2_with fail
        refine (devFill_c A' c' v' g' _ HRg_2.out HZ.out).mono ?_
        rintro e v3 ⟨hb, hp⟩
        obtain ⟨Q2, q2, rfl, hr⟩ := hp.res
        clear hp
        have HV2_3 := Lib.hid hr
        clear hr
        have HRg_3 := Lib.hid (HRg_2.out.keep hb)
        have HM_3 := Lib.hid (HM_2.out.keep hb)
        have HT_3 := Lib.hid (HT_2.out.keep hb)
        have HVa0_3 := Lib.hid (HVa0_2.out.keep hb)
        have HVb0_3 := Lib.hid (HVb0_2.out.keep hb)
        have HVa1_3 := Lib.hid (HVa1_2.out.keep hb)
        have HVb1_3 := Lib.hid (HVb1_2.out.keep hb)
        have HB_3 := Lib.hid (HB_2.out.trans (hb.mono HB_2.out.size))
        have hsz_3 := Nat.lt_of_lt_of_le hsz_2 hb.size
        clear HRg_2 HM_2 HT_2 HB_2 HVa0_2 HVb0_2 HVa1_2 HVb1_2 hsz_2 hb
        go_wp2_with fail
        refine (refFill_c A' c' v' g' _ HRg_3.out HZ.out).mono ?_
        rintro e v4 ⟨hb, hp⟩
        obtain ⟨Q3, q3, rfl, hr⟩ := hp.res
        clear hp
        have HV3_4 := Lib.hid hr
        clear hr
        have HRg_4 := Lib.hid (HRg_3.out.keep hb)
        have HM_4 := Lib.hid (HM_3.out.keep hb)
        have HT_4 := Lib.hid (HT_3.out.keep hb)
        have HVa0_4 := Lib.hid (HVa0_3.out.keep hb)
        have HVb0_4 := Lib.hid (HVb0_3.out.keep hb)
        have HVa1_4 := Lib.hid (HVa1_3.out.keep hb)
        have HVb1_4 := Lib.hid (HVb1_3.out.keep hb)
        have HV2_4 := Lib.hid (HV2_3.out.keep hb)
        have HB_4 := Lib.hid (HB_3.out.trans (hb.mono HB_3.out.size))
        have hsz_4 := Nat.lt_of_lt_of_le hsz_3 hb.size
        clear HRg_3 HM_3 HT_3 HB_3 HVa0_3 HVb0_3 HVa1_3 HVb1_3 HV2_3 hsz_3 hb
        go_wp2_with fail
        refine (devReplay_c A' A1' c' c1' g' ms' _ HRg_4.out HM_4.out HZ.out hml').mono ?_
        rintro e v5 ⟨hb, hp⟩
        obtain ⟨Q4, q4, rfl, hr⟩ := hp.res
        clear hp
        have HV4_5 := Lib.hid hr
        clear hr
        have HRg_5 := Lib.hid (HRg_4.out.keep hb)
        have HM_5 := Lib.hid (HM_4.out.keep hb)
        have HT_5 := Lib.hid (HT_4.out.keep hb)
        have HVa0_5 := Lib.hid (HVa0_4.out.keep hb)
        have HVb0_5 := Lib.hid (HVb0_4.out.keep hb)
        have HVa1_5 := Lib.hid (HVa1_4.out.keep hb)
        have HVb1_5 := Lib.hid (HVb1_4.out.keep hb)
        have HV2_5 := Lib.hid (HV2_4.out.keep hb)
        have HV3_5 := Lib.hid (HV3_4.out.keep hb)
        have HB_5 := Lib.hid (HB_4.out.trans (hb.mono HB_4.out.size))
        have hsz_5 := Nat.lt_of_lt_of_le hsz_4 hb.size
        clear HRg_4 HM_4 HT_4 HB_4 HVa0_4 HVb0_4 HVa1_4 HVb1_4 HV2_4 HV3_4 hsz_4 hb
        go_wp2_with fail
        refine (refReplay_c A' A1' c' c1' g' ms' _ HRg_5.out HM_5.out HZ.out hml').mono ?_
        rintro e v6 ⟨hb, hp⟩
        obtain ⟨Q5, q5, rfl, hr⟩ := hp.res
        clear hp
        have HV5_6 := Lib.hid hr
        clear hr
        have HRg_6 := Lib.hid (HRg_5.out.keep hb)
        have HM_6 := Lib.hid (HM_5.out.keep hb)
        have HT_6 := Lib.hid (HT_5.out.keep hb)
        have HVa0_6 := Lib.hid (HVa0_5.out.keep hb)
        have HVb0_6 := Lib.hid (HVb0_5.out.keep hb)
        have HVa1_6 := Lib.hid (HVa1_5.out.keep hb)
        have HVb1_6 := Lib.hid (HVb1_5.out.keep hb)
        have HV2_6 := Lib.hid (HV2_5.out.keep hb)
        have HV3_6 := Lib.hid (HV3_5.out.keep hb)
        have HV4_6 := Lib.hid (HV4_5.out.keep hb)
        have HB_6 := Lib.hid (HB_5.out.trans (hb.mono HB_5.out.size))
        have hsz_6 := Nat.lt_of_lt_of_le hsz_5 hb.size
        clear HRg_5 HM_5 HT_5 HB_5 HVa0_5 HVb0_5 HVa1_5 HVb1_5 HV2_5 HV3_5 HV4_5 hsz_5 hb
        have hq1 : (tiE g' != tiE g') = false := by simp
        have hq2 : (fiE g' v' != fiE g' v') = false := by simp
        have hq3 : (reE g' ms' != reE g' ms') = false := by simp
        have HL1 := Lib.hid (tiA_len g')
        have HL2 := Lib.hid (tiB_len g')
        have HL3 : Hid ((fiO g' v').length ≤ 1000000000000000000) := Lib.hid (Nat.le_trans (fiO_len g' v') (by omega))
        have HL4 := Lib.hid (reO_len g' ms')
        go_wp2_with fail
        refine (sameIntsE_c Q0a Q1a q0a q1a (tiA g') _ HVa0_6.out HVa1_6.out HL1.out).mono ?_
        rintro e w9 ⟨rfl, n9, rfl⟩
        go_wp2_with fail
        refine (sameIntsE_c Q0b Q1b q0b q1b (tiB g') _ (HVb0_6.out.drewN n9) (HVb1_6.out.drewN n9) HL2.out).mono ?_
        rintro e w10 ⟨rfl, n10, rfl⟩
        go_wp2_with fail
        refine (sameMovesE_c Q2 Q3 q2 q3 (fiO g' v') _ (HV2_6.out.drewN (n9 + n10)) (HV3_6.out.drewN (n9 + n10)) HL3.out).mono ?_
        rintro e w11 ⟨rfl, n11, rfl⟩
        go_wp2_with fail
        refine (sameIntsE_c Q4 Q5 q4 q5 (reO g' ms') _ (HV4_6.out.drewN (n9 + n10 + n11)) (HV5_6.out.drewN (n9 + n10 + n11)) HL4.out).mono ?_
        rintro e w12 ⟨rfl, n12, rfl⟩
        have hb := below_drewN (Below.refl v6.heap.size v6) (n9 + n10 + n11 + n12)
        have HF9 : Hid (Fills12 (v6.drewN (n9 + n10 + n11 + n12)) (.slice A' g'.length c') (.slice A1' ms'.length c1') (.int .i64 v')) := Lib.hid (by exact ⟨A', A1', c', c1', g', ms', v', rfl, rfl, rfl, HRg_6.out.keep hb, HM_6.out.keep hb, HZ.out, hml'⟩)
        have HT9 := Lib.hid (HT_6.out.keep hb)
        have HB9 := Lib.hid (HB_6.out.trans (hb.mono HB_6.out.size))
        have hsz9 : w1.heap.size < (v6.drewN (n9 + n10 + n11 + n12)).heap.size := hsz_6
        clear HRg_6 HM_6 HT_6 HB_6 hsz_6 HL1 HL2 HL3 HL4 hb HVa0_6 HVb0_6 HVa1_6 HVb1_6 HV2_6 HV3_6 HV4_6 HV5_6
        go_wp2
        go_roundw
        case rel => exact ⟨n + 1, by go_num, by omega, HF9, HT9, HB9, hsz9⟩
        case measure => simp [intOf]; omega
    · obtain rfl : n = 2 := by omega
      clear HFi HT_0
      go_wp2
      go_ret
      exact ⟨rfl, HB_0.out⟩
end Go.Proofs.Ytfgpenekmokdiaa
