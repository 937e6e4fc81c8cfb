/- ClosureMeans returns true. -/
import Derived.Test.YtcpoojlhfebcmaaDkAllow
namespace Go.Proofs.Ytcpoojlhfebcmaa
open Go Go.RowKit Fl

set_option maxRecDepth 100000 in
set_option maxHeartbeats 8000000 in
theorem closureMeans_c (hM : DevMutual) (C : Option Addr) (k : Nat) (zs : List Int) (fl : Int) (w : World) (hz : IntsAt w w.heap.size C zs) (hzl : zs.length ≤ maxLen) (hf1 : -9223372036854775808 ≤ fl) (hf2 : fl ≤ 9223372036854775807) :
    Calls Try.prog 4 #[.slice C zs.length k, .int .i64 fl] w fun e w' => e = .returned (.bool true) ∧ Below w.heap.size w w' := by
  have CK := Lib.hid (known10_c hM w)
  have HM := Lib.hid hM
  have HZ := Lib.hid hz
  have HL := Lib.hid hzl
  have HF := Lib.hid (show -9223372036854775808 ≤ fl ∧ fl ≤ 9223372036854775807 from ⟨hf1, hf2⟩)
  clear hM hz hzl hf1 hf2
  go_enter Try.func4, Try.ntmps4
  go_wp2_with fail
  refine CK.out.mono ?_
  rintro e w1 ⟨rfl, hb1⟩
  have HT2 := Lib.hid (tape_new (c := k) HZ.out (Nat.le_refl _) hb1 HL.out)
  have HB2 : Hid (Below w.heap.size w (w1.alloc (.cells #[.slice C zs.length k, .int .i64 0] 35))) := Lib.hid (hb1.alloc hb1.size _)
  have HgB : Hid (w.heap.size ≤ w1.heap.size) := Lib.hid hb1.size
  have HS2 : Hid (w1.heap.size < (w1.alloc (.cells #[.slice C zs.length k, .int .i64 0] 35)).heap.size) := Lib.hid (by simp)
  clear hb1 CK HZ HL
  go_wp2_with fail
  refine (loose_c w.heap.size w1.heap.size 0 8 _ HT2.out (by omega) ⟨by omega, by omega⟩ HS2.out HgB.out).mono ?_
  rintro e w3 ⟨N, Ab, An, As, Ar, cb, cn, cs, cr, top, rfl, hN, hM⟩
  have HN := Lib.hid hN
  have H4 := Lib.hid (MadeN.begin hM ⟨HgB.out, HS2.out⟩ HB2.out)
  generalize w1.alloc (.cells #[.slice C zs.length k, .int .i64 0] 35) = w2 at *
  clear hN hM HT2 HB2 HgB HS2
  go_upto_region 5 with fail
  generalize w3.alloc (.cells (netCells Ab An As Ar cb cn cs cr N) 29) = w4 at *
  generalize w3.heap.size = X at *
  obtain ⟨x0, x1, x2, x3, x4, x5, x6, x7⟩ := boxAt_of H4.out.box
  go_wp2_with fail
  refine (cells_c Ab An As Ar cb cn cs cr N _ H4.out.nm.at_ HN.out.ok.few').mono ?_
  rintro e w5 ⟨rfl, hb5⟩
  have H5 := Lib.hid (H4.out.keep hb5)
  clear x0 x1 x2 x3 x4 x5 x6 x7 hb5 H4
  obtain ⟨nc, hnc⟩ : ∃ nc : Nat, cellsN N = (nc : Int) := ⟨(cellsN N).toNat, by
    have h3 := slotsK_bounds (l := N.spurs) (fun s hs => by have := (HN.out.ok.spurOk s hs).slots; omega) N.spurs.length (Nat.le_refl _)
    have h5 : cellsN N = N.blocks.length + slotsK N.spurs N.spurs.length := rfl
    omega⟩
  have hc48 : nc ≤ 48 := by have := cellsN_le HN.out.ok.few'; omega
  have HNC := Lib.hid hnc
  rw [hnc]
  clear hnc
  have hsz5 : w1.heap.size < w5.heap.size := by have := H5.out.lowG.2; have := H5.out.nm.still.size; omega
  go_wp2_with fail
  refine (shut_c w.heap.size w1.heap.size (0 + 300) nc w5 H5.out.nm.tape (by omega) (by omega) hsz5).mono ?_
  rintro e w6 ⟨sv, s, rfl, hsl, hos, ht, hst⟩
  obtain rfl := hsl
  obtain ⟨B, d, rfl, hs6⟩ := own_is hos
  have H6 := Lib.hid (H5.out.still ht hst)
  have HO6 := Lib.hid hos
  have HS6 := Lib.hid hs6
  clear hos hs6 ht hst H5 hsz5
  obtain ⟨r, hrr⟩ : ∃ r, r = cutN fl 9 := ⟨_, rfl⟩
  have hr := Lib.hid (cutN_lt (v := fl) (n := 9) (by omega))
  rw [← hrr] at hr
  have CF : Hid (∀ W, Calls Try.prog 18 #[.int .i64 fl, .int .i64 9] W fun e w' => e = .returned (.int .i64 r) ∧ W = w') := Lib.hid (fun W => by rw [hrr]; exact cutN_c fl 9 W (by omega) (by omega) HF.out.1 HF.out.2)
  have hcl : N.blocks.length ≤ s.length := by
    have h3 := slotsK_bounds (l := N.spurs) (fun s hs => by have := (HN.out.ok.spurOk s hs).slots; omega) N.spurs.length (Nat.le_refl _)
    have h5 : cellsN N = N.blocks.length + slotsK N.spurs N.spurs.length := rfl
    have h6 := HNC.out
    omega
  clear hrr
  have HC48 := Lib.hid hc48
  clear hc48
  have HCar : Hid (carB N s r = (allN N s && decide ((r : Int) ≤ openSum s N.spurs N.spurs.length))) := Lib.hid rfl
  have HCp := Lib.hid H6.out.nm.capR
  have HNt := Lib.hid (fun W (hW : Below w6.heap.size w6 W) => (H6.out.keep hW).nm.at_)
  have HBx := Lib.hid (fun W (hW : Below w6.heap.size w6 W) => boxAt_of (H6.out.keep hW).box)
  have HHs := Lib.hid (fun W (hW : Below w6.heap.size w6 W) => HS6.out.keep hW)
  have HBw := Lib.hid (fun W (hW : Below w6.heap.size w6 W) => (H6.out.keep hW).below)
  have hcap0 : s.length ≤ d := by
    obtain ⟨_, h2⟩ := HO6.out
    rcases h2 with ⟨_, h0⟩ | ⟨g, cap', cur, hv, _, _, hn, _⟩
    · omega
    · injection hv with _ _ hc
      omega
  have CR := Lib.hid (carries_c HM.out Ab An As Ar B cb cn cs cr d N s r w6 (HNt.out _ (Below.refl _ _)) HN.out.ok HCp.out HS6.out HNC.out.symm hcap0 (by omega) (by have := hr.out; omega))
  have CM := Lib.hid (fun W (hW : Below w6.heap.size w6 W) => mutN_c HM.out (cn := cn) (d := d) (HNt.out W hW) HN.out.ok (HHs.out W hW) hcl)
  have CO := Lib.hid (fun k W (hk : k < N.spurs.length) (hW : Below w6.heap.size w6 W) => devOpen_c Ab An As Ar B cb cn cs cr d k N s W (HNt.out W hW) HN.out.ok HCp.out (HHs.out W hW) HNC.out.symm hcap0 hk)
  have hbd : (N.blocks.length : Int) ≤ (d : Int) := by omega
  have HSp := Lib.hid (fun W (hW : Below w6.heap.size w6 W) => (HNt.out W hW).spurs)
  have HBds := Lib.hid HN.out.ok.bounds
  have h6 := HN.out.ok.spurs6
  clear hcap0 HO6 hcl HNt
  generalize carB N s r = cv at *
  generalize allN N s = al at *
  obtain ⟨x0, x1, x2, x3, x4, x5, x6, x7⟩ := HBx.out _ (Below.refl _ _)
  go_wp2_with fail
  refine (CF.out _).mono ?_
  rintro e w7 ⟨rfl, rfl⟩
  go_wp2_with fail
  refine CR.out.mono ?_
  rintro e w8 ⟨rfl, hb8⟩
  have HB8 := Lib.hid hb8
  clear x0 x1 x2 x3 x4 x5 x6 x7 hb8 CR CF
  obtain ⟨x0, x1, _, _, _, _, _, _⟩ := HBx.out _ HB8.out
  have HW := Lib.hid (fun W (hW : Below w8.heap.size w8 W) => HBx.out W (HB8.out.trans (hW.mono HB8.out.size)))
  have HBW := Lib.hid (fun W (hW : Below w8.heap.size w8 W) => HB8.out.trans (hW.mono HB8.out.size))
  go_wp2_with fail
  go_region_held3 (fun W => W.cell? ⟨X, 0, none⟩ = some (.slice Ab N.blocks.length cb) ∧ W.cell? ⟨X, 1, none⟩ = some (.slice An N.next.length cn)) (first | exact ⟨(HW.out _ ((Below.refl _ _).drew)).c0, (HW.out _ ((Below.refl _ _).drew)).c1⟩ | exact ⟨(HW.out _ HB9.out).c0, (HW.out _ HB9.out).c1⟩) (first | (go_at_call 19; refine (CM.out _ (HBW.out _ ((Below.refl _ _).drew))).mono ?_; rintro e w9 ⟨rfl, hb9⟩; have HB9 : Hid (Below w8.heap.size w8 w9) := Lib.hid (((Below.refl w8.heap.size w8).drew).trans hb9); clear hb9))
  all_goals
    have HBf := Lib.hid (HBW.out _ HB9.out)
    clear HW HBW CM HB9 HB8 x0 x1
    clear HM HF HN HNC H6 HS6 HC48 HCp HHs hbd
    obtain ⟨x0, x1, x2, x3, x4, x5, x6, x7⟩ := HBx.out _ HBf.out
    go_wp2
    go_loopw [13, 14] (fun c i wr => ∃ (j : Nat) (z : Int), i = .int .i64 j ∧ j ≤ N.spurs.length ∧ c = .int .i64 z ∧ Hid (z = openSum s N.spurs j) ∧ 0 ≤ z ∧ z ≤ 4 * j ∧ Below w6.heap.size w6 wr) (fun _ i _ => N.spurs.length - (intOf i).toNat)
    case atStart => exact ⟨0, 0, rfl, Nat.zero_le _, rfl, Lib.hid (by simp [openSum]), by omega, by omega, HBf.out⟩
    case round =>
      clear x0 x1 x2 x3 x4 x5 x6 x7 HBf
      obtain ⟨j, z, rfl, hj, rfl, HZ, hz0, hz1, hb⟩ := hrel
      have HB := Lib.hid hb
      obtain ⟨x0, x1, x2, x3, x4, x5, x6, x7⟩ := HBx.out _ HB.out
      by_cases hlt : j < N.spurs.length
      · have HCk := Lib.hid (CO.out j wr hlt HB.out)
        have HZ2 := Lib.hid (openSum_succ (s := s) hlt)
        have hsl4 := (HBds.out _ (List.getElem_mem hlt)).1
        obtain ⟨bp, op, rfl, hbp, hsp⟩ := (HSp.out _ HB.out).spur hlt
        have HSj : Hid (∀ W, Below wr.heap.size wr W → SpurAt W bp (op + j * 6) N.spurs[j]) := Lib.hid (fun W hW => hsp.keep hbp hW)
        clear hsp hb
        generalize hop : openS s N.spurs[j] = oq at *
        generalize N.spurs[j] = x at *
        obtain ⟨nm, dp, xi, xo, xw, xb⟩ := x
        simp only at HZ2 hsl4
        clear hop
        go_wp2_with fail
        refine HCk.out.mono ?_
        rintro e w3 ⟨rfl, hb3⟩
        have HB3 := Lib.hid (HB.out.trans (hb3.mono HB.out.size))
        obtain ⟨c0, c1, c2, c3, c4, c5⟩ := HSj.out _ hb3
        simp only at c0 c1 c2 c3 c4 c5
        clear x0 x1 x2 x3 x4 x5 x6 x7 hb3 HCk HSj HB
        obtain ⟨x0, x1, x2, x3, x4, x5, x6, x7⟩ := HBx.out _ HB3.out
        have hzw : IntKind.i64.wrap (z + xw) = z + xw := IntWalk.i64_in _ (by omega)
        rcases oq with _ | _
        · have HZ3 : Hid (z = openSum s N.spurs (j + 1)) := Lib.hid (by rw [HZ2.out, HZ.out]; simp)
          clear HZ2 HZ
          go_wp2
          go_roundw
          case rel => exact ⟨j + 1, z, by go_num, by omega, rfl, HZ3, by omega, by omega, HB3.out⟩
          case measure => simp [intOf]; omega
        · rcases dp with _ | _
          · have HZ3 : Hid (z = openSum s N.spurs (j + 1)) := Lib.hid (by rw [HZ2.out, HZ.out]; simp)
            clear HZ2 HZ
            go_wp2
            go_roundw
            case rel => exact ⟨j + 1, z, by go_num, by omega, rfl, HZ3, by omega, by omega, HB3.out⟩
            case measure => simp [intOf]; omega
          · have HZ3 : Hid (z + xw = openSum s N.spurs (j + 1)) := Lib.hid (by rw [HZ2.out, HZ.out]; simp)
            clear HZ2 HZ
            go_wp2
            go_roundw
            case rel => exact ⟨j + 1, z + xw, by go_num, by omega, rfl, HZ3, by omega, by omega, HB3.out⟩
            case measure => simp [intOf]; omega
      · obtain rfl : j = N.spurs.length := by omega
        have HEnd := Lib.hid (HBw.out _ HB.out)
        rw [← HZ.out] at HCar
        clear HZ HB hb
        by_cases hle : (r : Int) ≤ z
        · rw [decide_eq_true hle, Bool.and_true] at HCar
          obtain rfl := HCar.out
          clear HCar
          rcases cv with _ | _
          all_goals
            go_wp2
            go_ret
            exact ⟨rfl, HEnd.out⟩
        · rw [decide_eq_false hle, Bool.and_false] at HCar
          obtain rfl := HCar.out
          clear HCar
          rcases al with _ | _
          all_goals
            go_wp2
            go_ret
            exact ⟨rfl, HEnd.out⟩
end Go.Proofs.Ytcpoojlhfebcmaa
