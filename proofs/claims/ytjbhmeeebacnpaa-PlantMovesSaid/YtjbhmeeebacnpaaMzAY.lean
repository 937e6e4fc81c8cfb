/- Joined texts. -/
import Derived.OpenShut
import Derived.Test.YtjbhmeeebacnpaaRows
import Derived.Test.YtjbhmeeebacnpaaMzAS
import Derived.Carry
import Derived.SizedLaws
import Derived.ProofKit
import Derived.Deep.DeepHandedRow
import Derived.Lib.LaidTab
import Derived.Test.YtjbhmeeebacnpaaMzAX
namespace Go.Proofs.Ytjbhmeeebacnpaa
open Go.ChangeShapes Go.WideShapes Go.ChangeAt Go.RowKit

theorem own_none : ownKnob Try.prog.godebug = none := by kernel_rfl
noncomputable def laidWorld (os : Os) : World := World.holding Try.prog os ⟨#[], #[], []⟩
theorem laid_at (os : Os) (args : Array Value) : laidMet Try.prog [] ((laidWorld os).forCall (fun _ _ => 0) ⟨#[], args, []⟩).memory :=
  laidMet_of_run' 8 (by kernel_rfl) (by kernel_rfl)
theorem laidOut : laidOutB Try.prog = true := by kernel_rfl
theorem cellsInt : Try.prog.cellsOf 3 = 1 := by kernel_rfl
set_option maxRecDepth 100000 in
/-- An argument of type []int holds a list of numbers. -/
theorem open_list {H : Type} {enc : TypeId × Value → H} {W : World} {v : Value} {d : DataW H} {p : List MemPlace} {base : Nat}
    (hok : Value.okWide Try.prog W .any base 25 v) (h : DataW.Trod enc Try.prog W 0 (fun _ => true) true 25 v d p) :
    ∃ (A : Option Addr) (c : Nat) (zs : List Int), v = .slice A zs.length c ∧ IntsAt W W.heap.size A zs ∧ zs.length ≤ maxLen := by
  obtain ⟨a0, len, cap, rfl⟩ := okWide_slice Try.underlying25 hok
  obtain ⟨fuel, hf⟩ := h
  rcases open_ints Try.underlying25 Try.underlying3 cellsInt hf with ⟨hcs, hx⟩ | ⟨a, len', cap', zs, hcs, _, hl, hm, hz, hx, hcell, hwz⟩
  · simp [Value.cells] at hcs
    obtain ⟨rfl, rfl, rfl⟩ := hcs
    exact ⟨none, 0, [], rfl, fun h => by simp at h, by simp⟩
  · simp [Value.cells] at hcs
    obtain ⟨rfl, rfl, rfl⟩ := hcs
    simp only [if_true] at hz
    have hlen : (zs.take len).length = len := by simp; omega
    refine ⟨some a, cap, zs.take len, by rw [hlen], fun hn => ?_, by rw [hlen]; omega⟩
    rw [hlen] at hn
    obtain ⟨b, off, rfl, hc⟩ := ints_at hcell (by omega)
    refine ⟨b, off, rfl, World.block_lt_of_cell? _ _ (hc 0 (by omega)), fun j hj => ?_⟩
    rw [hlen] at hj
    have hjz : j < zs.length := by omega
    have hwj := bounds_i64 (hwz _ (List.getElem_mem hjz))
    have e : (zs.take len)[j]'(by rw [hlen]; exact hj) = zs[j] := by simp
    rw [e]
    refine ⟨?_, hwj.1, hwj.2⟩
    rw [hc j hjz]
    simp [List.getD, hjz]
/-- The type is an array, its value an aggregate. -/
theorem okWide_arr {P : Program} {w : World} {r : Reach} {base : Nat} {t : TypeId} {v : Value} {n : Nat} {e : TypeId} (ht : P.underlying t = some (.array n e)) (h : Value.okWide P w r base t v) : ∃ cs, v = .agg cs ∧ cs.size = P.cellsOf t := by
  simp only [Value.okWide, ht] at h
  obtain ⟨cs, h1, h2, _⟩ := h
  exact ⟨cs, h1, h2⟩
end Go.Proofs.Ytjbhmeeebacnpaa
namespace Go.Proofs.Ytjbhmeeebacnpaa
open Go Go.RowKit Fl

theorem doE_put {fol : Bool} {z : Int} (hz : 0 ≤ z ∧ z < 48) : doE fol [offB] 0 0 z = 0 ∧ doL fol [offB] 0 0 z = [⟨z, -1, false, false⟩] := by
  have h1 := do_ch fol [offB] 0 0 z hz
  rw [h1.1, h1.2]
  exact ⟨rfl, rfl⟩
theorem doE_beginT {a z : Int} (ha : a ≠ -1) (hz : 0 ≤ z ∧ z < 48) : doE true [⟨a, -1, false, false⟩] 0 1 z = 0 ∧ doL true [⟨a, -1, false, false⟩] 0 1 z = [⟨a, z, false, false⟩] := by
  have h1 := do_ch true [⟨a, -1, false, false⟩] 0 1 z hz
  have h2 : okB true (bodAt [⟨a, -1, false, false⟩] 0) 1 = true := by
    show (restB ⟨a, -1, false, false⟩ && true) = true
    unfold restB floorB
    simpa using ha
  rw [h1.1, h1.2, h2]
  exact ⟨rfl, rfl⟩
theorem doE_beginF {a z : Int} (hz : 0 ≤ z ∧ z < 48) : doE false [⟨a, -1, false, false⟩] 0 1 z = 24 ∧ doL false [⟨a, -1, false, false⟩] 0 1 z = [] := by
  have h1 := do_ch false [⟨a, -1, false, false⟩] 0 1 z hz
  have h2 : okB false (bodAt [⟨a, -1, false, false⟩] 0) 1 = false := by
    show (restB ⟨a, -1, false, false⟩ && false) = false
    simp
  rw [h1.1, h1.2, h2]
  exact ⟨rfl, rfl⟩
theorem doE_begin2 {fol : Bool} {a y z : Int} (hy : y ≠ -1) (hz : 0 ≤ z ∧ z < 48) : doE fol [⟨a, y, false, false⟩] 0 1 z = 24 := by
  have h1 := do_ch fol [⟨a, y, false, false⟩] 0 1 z hz
  have h2 : okB fol (bodAt [⟨a, y, false, false⟩] 0) 1 = false := by
    show (restB ⟨a, y, false, false⟩ && fol) = false
    have : restB ⟨a, y, false, false⟩ = false := by unfold restB; simp [hy]
    rw [this]; rfl
  rw [h1.1, h2]
  rfl
theorem doE_end {fol : Bool} {a y : Int} (ha : a ≠ -1) (hy : y ≠ -1) : doE fol [⟨a, y, false, false⟩] 0 2 0 = 0 ∧ doL fol [⟨a, y, false, false⟩] 0 2 0 = [⟨y, -1, false, false⟩] := by
  have h1 := do_ch fol [⟨a, y, false, false⟩] 0 2 0 (by decide)
  have h2 : okB fol (bodAt [⟨a, y, false, false⟩] 0) 2 = true := by
    show (floorB ⟨a, y, false, false⟩ && y != -1 && !false) = true
    unfold floorB
    simp [ha, hy]
  rw [h1.1, h1.2, h2]
  exact ⟨rfl, rfl⟩
theorem fp_move {a y : Int} (ha : a ≠ -1) (hy : y ≠ -1) (hn : y ≠ a) : fpB ⟨a, y, false, false⟩ = [min a y, max a y] := by
  unfold fpB
  rw [if_neg ha, if_neg (fun h => h.elim hy hn)]
set_option maxRecDepth 100000 in
set_option maxHeartbeats 8000000 in
theorem plantMoves_c (C : Option Addr) (k : Nat) (zs : List Int) (w : World) (hz : IntsAt w w.heap.size C zs) (hzl : zs.length ≤ maxLen) :
    Calls Try.prog 6 #[.slice C zs.length k] w fun e w' => e = .returned (.bool true) ∧ Below w.heap.size w w' := by
  have CK := Lib.hid (known16_c w)
  have HZ := Lib.hid hz
  have HL := Lib.hid hzl
  clear hz hzl
  go_enter Try.func6, Try.ntmps6
  go_wp2_with fail
  refine CK.out.mono ?_
  rintro e w1 ⟨rfl, hb1⟩
  have HT2 := Lib.hid (tape_new (c := k) HZ.out (Nat.le_refl _) hb1 HL.out)
  have HB2 : Hid (Below w.heap.size w (w1.alloc (.cells #[.slice C zs.length k, .int .i64 0] 35))) := Lib.hid (hb1.alloc hb1.size _)
  have HgB : Hid (w.heap.size ≤ w1.heap.size) := Lib.hid hb1.size
  have HS2 : Hid (w1.heap.size < (w1.alloc (.cells #[.slice C zs.length k, .int .i64 0] 35)).heap.size) := Lib.hid (by simp)
  clear hb1 CK HZ HL
  go_wp2_with fail
  refine (loose_c w.heap.size w1.heap.size 0 6 _ HT2.out (by omega) ⟨by omega, by omega⟩ HS2.out HgB.out).mono ?_
  rintro e w3 ⟨N, Ab, An, As, Ar, cb, cn, cs, cr, top, rfl, hN, hM⟩
  have HN := Lib.hid hN
  have H4 := Lib.hid (MadeN.begin hM ⟨HgB.out, HS2.out⟩ HB2.out)
  generalize w1.alloc (.cells #[.slice C zs.length k, .int .i64 0] 35) = w2 at *
  generalize hg0 : w1.heap.size = g0 at *
  clear hN hM HT2 HB2 HgB HS2 hg0
  go_upto_region 5 with fail
  generalize w3.alloc (.cells (netCells Ab An As Ar cb cn cs cr N) 29) = w4 at *
  generalize w3.heap.size = X at *
  have HOk := Lib.hid HN.out.ok
  have HCr := Lib.hid H4.out.nm.capR
  obtain ⟨c, hc, hc1, hc48⟩ := HOk.out.count
  have HCl := Lib.hid (cells_c Ab An As Ar cb cn cs cr N w4 H4.out.nm.at_ HOk.out.few')
  rw [hc] at HCl
  have HP4 : Hid (PN w w2 g0 300 X top N Ab An As Ar cb cn cs cr (.slice none 0 0) [] w4) := Lib.hid ⟨H4.out.mono (by omega), StK.Own.nil _ _ _⟩
  have HIn : Hid (∀ z : Nat, z < c → inN N z) := Lib.hid (fun z hz => ⟨by omega, by rw [hc]; omega⟩)
  obtain ⟨x0, x1, x2, x3, x4, x5, x6, x7⟩ := HP4.out.box
  have HCt := Lib.hid hc
  clear HN H4 hc
  go_wp2_with fail
  refine HCl.out.mono ?_
  rintro e w5 ⟨rfl, hb5⟩
  have HP5 := Lib.hid (HP4.out.keep hb5)
  clear hb5 HCl HP4 x0 x1 x2 x3 x4 x5 x6 x7
  have HP6 : Hid (PN w w2 g0 (300) X top N Ab An As Ar cb cn cs cr (.slice (some ⟨w5.heap.size, 0, none⟩) 1 1) [offB] (w5.alloc (.cells #[.int .i64 (-1), .int .i64 (-1), .bool false, .bool false] 40))) := Lib.hid ⟨(HP5.out.keep (below_newB w5 (.cells (BC offB) 40))).made, (holds_one (BodAt.new w5 offB)).base HP5.out.low⟩
  clear HP5
  go_wp2_with fail
  generalize hY : w5.heap.size = Y at *
  clear hY
  generalize w5.alloc (.cells #[.int .i64 (-1), .int .i64 (-1), .bool false, .bool false] 40) = w6 at *
  refine (next_c w.heap.size g0 300 (c : Int) w6 HP6.out.made.nm.tape (by omega) (by omega) (by omega)).mono ?_
  rintro e w7 ⟨z0, hz0, rfl, ht7, hg7⟩
  have HP7 := Lib.hid (HP6.out.next ht7 hg7)
  clear ht7 hg7 HP6
  have hD := devPut_c (some ⟨Y, 0, none⟩) 1 1 [offB] rfl 0 (z0 : Int) false w7 HP7.out.holds (by decide)
  rw [(doE_put ⟨by omega, by omega⟩).1, (doE_put ⟨by omega, by omega⟩).2] at hD
  have HD := Lib.hid hD
  clear hD
  go_wp2_with fail
  refine HD.out.mono ?_
  rintro e w8 ⟨v8, rfl, ho8, hb8⟩
  have HP8 : Hid (PN w w2 g0 (310) X top N Ab An As Ar cb cn cs cr v8 [⟨z0, -1, false, false⟩] w8) := Lib.hid ((HP7.out.put hb8 ho8).more (by omega))
  obtain ⟨A8, c8, rfl, _⟩ := ho8.form
  clear ho8 hb8 HP7 HD
  go_wp2_with fail
  go_loopw [6, 8] (fun p kv wr => ∃ (k d z : Nat) (A : Option Addr), p = .slice A 1 d ∧ kv = .int .i64 k ∧ k ≤ 10 ∧ z < c ∧ Hid (PN w w2 g0 (310 + 3 * k) X top N Ab An As Ar cb cn cs cr p [⟨z, -1, false, false⟩] wr)) (fun _ kv _ => 10 - (intOf kv).toNat)
  case atStart => exact ⟨0, _, z0, _, rfl, rfl, by omega, by omega, HP8⟩
  case round =>
    clear HP8
    obtain ⟨k, d, z, A, rfl, rfl, hk, hzc, HP⟩ := hrel
    by_cases hkt : k < 10
    · have hki : (k : Int) < 10 := by omega
      have HFz := HIn.out z hzc
      go_wp2_with fail
      refine (next_c w.heap.size g0 _ (c : Int) _ HP.out.made.nm.tape (by omega) (by omega) (by omega)).mono ?_
      rintro e w9 ⟨z9, hz9, rfl, ht9, hg9⟩
      have HP9 := Lib.hid (HP.out.next ht9 hg9)
      clear ht9 hg9 HP
      obtain ⟨xs, hx24, hxin, hNx, _⟩ := nextMade Ab An As Ar cb cn cs cr N z w9 HP9.out.made.nm.at_ HOk.out HCr.out HFz
      have HXin := Lib.hid hxin
      have HNx := Lib.hid hNx
      have HPd := Lib.hid HP9.out.drew
      obtain ⟨b9, o9, rfl, y0, y1, y2, y3⟩ := one_cells HPd.out.holds
      obtain ⟨x0, x1, x2, x3, x4, x5, x6, x7⟩ := HPd.out.box
      clear hxin hNx
      dsimp only at y0 y1 y2 y3
      go_upto_region 13 with fail
      go_cut [10, 11] from 53 to 60 (fun p q wx => ∃ (A2 : Option Addr) (d2 : Nat), p = .slice A2 xs.length d2 ∧ q = .int .i64 0 ∧ Hid (wx.ownsRow (g0 + 1) 3 1 (.slice A2 xs.length d2) xs.length (xs.map Iv)) ∧ Hid (PN w w2 g0 (310 + 3 * k + 1) X top N Ab An As Ar cb cn cs cr (.slice (some ⟨b9, o9, none⟩) 1 d) [⟨z, -1, false, false⟩] wx))
      case first =>
        go_region_held3 (fun W => W.cell? ⟨X, 0, none⟩ = some (.slice Ab N.blocks.length cb) ∧ W.cell? ⟨X, 1, none⟩ = some (.slice An N.next.length cn) ∧ W.cell? ⟨X, 2, none⟩ = some (.slice As N.spurs.length cs) ∧ W.cell? ⟨X, 3, none⟩ = some (.slice Ar N.robots.length cr) ∧ W.cell? ⟨X, 4, none⟩ = some (Iv N.queue) ∧ W.cell? ⟨X, 5, none⟩ = some (Iv N.aging) ∧ W.cell? ⟨X, 6, none⟩ = some (Iv N.detours) ∧ W.cell? ⟨X, 7, none⟩ = some (Iv N.patience) ∧ W.cell? ⟨b9, o9, none⟩ = some (.int .i64 z)) (first | exact ⟨x0, x1, x2, x3, x4, x5, x6, x7, y0⟩ | (obtain ⟨q0, q1, q2, q3, q4, q5, q6, q7⟩ := HP10.out.box; exact ⟨q0, q1, q2, q3, q4, q5, q6, q7, p0⟩)) (first | (go_at_call 24; refine (HNx.out w9.drew (Below.refl _ _).drew).mono ?_; rintro e w10 ⟨u, rfl, ho10, hb10⟩; obtain ⟨A2, d2, rfl⟩ := own_sliceC ho10; have HP10 := Lib.hid (HPd.out.keep hb10); have HO10 := Lib.hid (own_down (base' := g0 + 1) ho10 (by have := HPd.out.low; omega)); obtain ⟨b7, o7, hA7, p0, _⟩ := one_cells HP10.out.holds; injection hA7 with hA7; injection hA7 with hA7 hA8; subst hA7 hA8; dsimp only at p0; clear ho10 hb10))
        all_goals (go_wp2_with fail; go_meet)
        all_goals exact ⟨_, _, rfl, rfl, HO10, HP10⟩
      case rest =>
        obtain ⟨A2, d2, rfl, rfl, HO, HPc⟩ := hcut
        clear HPd HP9 HNx x0 x1 x2 x3 x4 x5 x6 x7 y0 y1 y2 y3
        go_upto_region 14 with fail
        go_cut [72] from 61 to 72 (fun q wx => ∃ bq : Bool, q = .bool bq ∧ (bq = true → 0 < xs.length) ∧ Hid (wx.ownsRow (g0 + 1) 3 1 (.slice A2 xs.length d2) xs.length (xs.map Iv)) ∧ Hid (PN w w2 g0 (310 + 3 * k + 2) X top N Ab An As Ar cb cn cs cr (.slice (some ⟨b9, o9, none⟩) 1 d) [⟨z, -1, false, false⟩] wx))
        case first =>
          by_cases hx0 : 0 < xs.length
          · have hx0i : (0 : Int) < (xs.length : Int) := by omega
            go_wp2_with fail
            refine (next_c w.heap.size g0 _ 3 _ HPc.out.made.nm.tape (by omega) (by omega) (by omega)).mono ?_
            rintro e w11 ⟨r3, hr3, rfl, ht11, hg11⟩
            have HP11 := Lib.hid (HPc.out.next ht11 hg11)
            have HO11 := Lib.hid (own_farC HO.out hg11 (by omega))
            clear ht11 hg11
            go_wp2_with fail
            go_meet
            case rel => exact ⟨_, rfl, fun _ => hx0, HO11, HP11⟩
          · have hx0i : ¬ (0 : Int) < (xs.length : Int) := by omega
            have HP11 := Lib.hid (HPc.out.more (T' := 310 + 3 * k + 2) (by omega))
            go_wp2_with fail
            go_meet
            case rel => exact ⟨false, rfl, (fun h => by cases h), HO, HP11⟩
        case rest =>
          clear HO HPc
          obtain ⟨bq, rfl, hbq, HO, HP12⟩ := hcut
          have HBq := Lib.hid hbq
          clear hbq
          go_upto_if 72 with fail
          go_cut [9] from 73 to 79 (fun p wx => ∃ y : Nat, p = .int .i64 y ∧ y < c ∧ Hid (PN w w2 g0 (310 + 3 * (k + 1)) X top N Ab An As Ar cb cn cs cr (.slice (some ⟨b9, o9, none⟩) 1 d) [⟨z, -1, false, false⟩] wx))
          case first =>
            rcases bq with _ | _
            · have HP13 := Lib.hid (HP12.out.more (T' := 310 + 3 * (k + 1)) (by omega))
              clear HP12
              go_wp2_with fail
              go_meet
              case rel => exact ⟨z9, rfl, by omega, HP13⟩
            · have hx0 := HBq.out rfl
              go_wp2_with fail
              refine (next_c w.heap.size g0 _ (xs.length : Int) _ HP12.out.made.nm.tape (by omega) (by omega) (by omega)).mono ?_
              rintro e w13 ⟨i, hi, rfl, ht13, hg13⟩
              have HP13 := Lib.hid ((HP12.out.next ht13 hg13).more (T' := 310 + 3 * (k + 1)) (by omega))
              have hO13 := own_farC HO.out hg13 (by omega)
              have hi2 : i < xs.length := by omega
              obtain ⟨b13, o13, rfl, q0⟩ := (ownsRow_holds hO13).iv hi2
              obtain ⟨⟨q1, q2⟩, _⟩ := HXin.out xs[i] (List.getElem_mem hi2)
              rw [HCt.out] at q2
              obtain ⟨y, hy⟩ := Int.eq_ofNat_of_zero_le q1
              rw [hy] at q0 q2
              clear ht13 hg13 hO13 HP12 HO hy q1
              go_wp2_with fail
              go_meet
              case rel => exact ⟨y, rfl, by omega, HP13⟩
          case rest =>
            clear HO HP12 HXin HBq
            obtain ⟨y, rfl, hy, HP14⟩ := hcut
            obtain ⟨ys, _, hyin, _, hFy⟩ := nextMade Ab An As Ar cb cn cs cr N z wc HP14.out.made.nm.at_ HOk.out HCr.out HFz
            have hFy2 := fun W hW => hFy (y : Int) W hW
            have hne : decide ((y : Int) ∈ ys) = true → (y : Int) ≠ z := fun h => (hyin _ (of_decide_eq_true h)).2
            clear hyin hFy
            generalize decide ((y : Int) ∈ ys) = res at *
            have HFy := Lib.hid hFy2
            have HNe := Lib.hid hne
            clear hFy2 hne
            obtain ⟨b7, o7, hA7, p0, _⟩ := one_cells HP14.out.holds
            injection hA7 with hA7
            injection hA7 with hA7 hA8
            subst hA7 hA8
            obtain ⟨x0, x1, x2, x3, x4, x5, x6, x7⟩ := HP14.out.box
            dsimp only at p0
            rcases res with _ | _
            · have hB := devBegin_c Ab An As Ar cb cn cs cr N (some ⟨b9, o9, none⟩) d 1 [⟨z, -1, false, false⟩] rfl 0 (y : Int) false wc HP14.out.holds (by decide) HFy.out
              rw [(doE_beginF ⟨by omega, by omega⟩).1] at hB
              have HBg := Lib.hid hB
              clear hB HNe
              go_wp2_with fail
              refine HBg.out.mono ?_
              rintro e w15 ⟨v15, rfl, _, hb15⟩
              have HP15 := Lib.hid (HP14.out.keep hb15)
              have HBc := Lib.hid hb15
              clear hb15 HP14 HBg x0 x1 x2 x3 x4 x5 x6 x7
              obtain ⟨x0, x1, x2, x3, x4, x5, x6, x7⟩ := HP15.out.box
              go_wp2_with fail
              refine (HFy.out w15 HBc.out).mono ?_
              rintro e w16 ⟨rfl, hb16⟩
              have HP16 := Lib.hid (HP15.out.keep hb16)
              clear hb16 HP15 HFy HBc x0 x1 x2 x3 x4 x5 x6 x7 p0
              go_wp2
              go_roundw
              case rel => exact ⟨k + 1, d, z, _, rfl, by go_num, by omega, hzc, HP16⟩
              case measure => simp [intOf]; omega
            · have hne := HNe.out rfl
              have hB := devBegin_c Ab An As Ar cb cn cs cr N (some ⟨b9, o9, none⟩) d 1 [⟨z, -1, false, false⟩] rfl 0 (y : Int) true wc HP14.out.holds (by decide) HFy.out
              rw [(doE_beginT (by omega) ⟨by omega, by omega⟩).1, (doE_beginT (by omega) ⟨by omega, by omega⟩).2] at hB
              have HBg := Lib.hid hB
              clear hB HNe
              go_wp2_with fail
              refine HBg.out.mono ?_
              rintro e w15 ⟨v15, rfl, ho15, hb15⟩
              have HP15 := Lib.hid (HP14.out.put hb15 ho15)
              obtain ⟨A15, d15, rfl, _⟩ := ho15.form
              have HBc := Lib.hid hb15
              clear hb15 ho15 HP14 HBg x0 x1 x2 x3 x4 x5 x6 x7 p0
              obtain ⟨x0, x1, x2, x3, x4, x5, x6, x7⟩ := HP15.out.box
              go_wp2_with fail
              refine (HFy.out w15 HBc.out).mono ?_
              rintro e w16 ⟨rfl, hb16⟩
              have HP16 := Lib.hid (HP15.out.keep hb16)
              have HBc2 := Lib.hid (HBc.out.trans (hb16.mono HBc.out.size))
              clear hb16 HP15 HBc x0 x1 x2 x3 x4 x5 x6 x7
              obtain ⟨b16, o16, rfl, p0, p1, p2, p3⟩ := one_cells HP16.out.holds
              dsimp only at p0 p1 p2 p3
              have hFp := devFp_c ⟨z, y, false, false⟩ w16
              rw [fp_move (by omega) (by omega) hne] at hFp
              have HFp := Lib.hid hFp
              clear hFp
              go_wp2_with fail
              refine HFp.out.mono ?_
              rintro e w17 ⟨u17, rfl, ho17, hb17⟩
              obtain ⟨A17, d17, rfl⟩ := own_sliceC ho17
              have HP17 := Lib.hid (HP16.out.keep hb17)
              have HBc3 := Lib.hid (HBc2.out.trans (hb17.mono HBc2.out.size))
              obtain ⟨b17, o17, rfl, r0⟩ := (ownsRow_holds ho17).iv (zs := [min (z : Int) y, max (z : Int) y]) (k := 0) (by simp)
              obtain ⟨b17', o17', hA17, r1⟩ := (ownsRow_holds ho17).iv (zs := [min (z : Int) y, max (z : Int) y]) (k := 1) (by simp)
              injection hA17 with hA17
              injection hA17 with hA17 hA18
              subst hA17 hA18
              simp only [List.getElem_cons_zero, List.getElem_cons_succ, Nat.add_zero] at r0 r1
              obtain ⟨x0, x1, x2, x3, x4, x5, x6, x7⟩ := HP17.out.box
              have hB2 := devBegin_c Ab An As Ar cb cn cs cr N (some ⟨b16, o16, none⟩) d15 1 [⟨z, y, false, false⟩] rfl 0 (y : Int) true w17 HP17.out.holds (by decide) (fun W hW => HFy.out W (HBc3.out.trans (hW.mono HBc3.out.size)))
              rw [doE_begin2 (by omega) ⟨by omega, by omega⟩] at hB2
              have HBg2 := Lib.hid hB2
              clear hB2 ho17 hb17 HP16 HBc2 HFp p0 p1 p2 p3
              go_wp2_with fail
              refine HBg2.out.mono ?_
              rintro e w18 ⟨v18, rfl, _, hb18⟩
              have HP18 := Lib.hid (HP17.out.keep hb18)
              have hE := devEnd_c (some ⟨b16, o16, none⟩) d15 1 [⟨z, y, false, false⟩] rfl 0 false w18 HP18.out.holds (by decide)
              rw [(doE_end (by omega) (by omega)).1, (doE_end (by omega) (by omega)).2] at hE
              have HE := Lib.hid hE
              clear hE hb18 HBg2 HP17 HBc3 HFy x0 x1 x2 x3 x4 x5 x6 x7 r0 r1
              go_wp2_with fail
              refine HE.out.mono ?_
              rintro e w19 ⟨v19, rfl, ho19, hb19⟩
              have HP19 := Lib.hid (HP18.out.put hb19 ho19)
              obtain ⟨A19, d19, rfl, _⟩ := ho19.form
              obtain ⟨b19, o19, rfl, p0, p1, p2, p3⟩ := one_cells HP19.out.holds
              have hef := fun W => bod_eq ⟨y, -1, false, false⟩ ⟨y, -1, false, false⟩ W
              simp only [decide_true] at hef
              have hgd := guard_bod
              dsimp only at p0 p1 p2 p3 hef
              clear ho19 hb19 HP18 HE
              go_wp2
              go_roundw
              case rel => exact ⟨k + 1, d19, y, _, rfl, by go_num, by omega, hy, HP19⟩
              case measure => simp [intOf]; omega
    · have hki : ¬ (k : Int) < 10 := by omega
      have HBw := Lib.hid HP.out.made.below
      clear HP
      go_wp2
      go_ret
      exact ⟨rfl, HBw.out⟩
end Go.Proofs.Ytjbhmeeebacnpaa
