/- Contracts of the reference's Square, Mirror and Rotate of layer 8. -/
import Derived.Test.YtifnmfljlgaeoaaPlTurn
import Derived.Test.YtifnmfljlgaeoaaLitTab
namespace Go.Proofs.Ytifnmfljlgaeoaa
open Go Go.RowKit Fl

def oneE (b : BlockD) : Int := if okB b then 0 else 19
def twoBE (a b : BlockD) : Int := if twoB a b then 0 else 19
def squareR (a b : BlockD) : Int := if twoB a b then squareZ a b else 0
def mirR (b : BlockD) : BlockD := if okB b then mirZ b else zeroB
def rotR (b : BlockD) (q : Int) : BlockD := if okB b then rotZ b q else zeroB
theorem BlkAt.set0 {w : World} {G : Nat} {b : BlockD} (h : BlkAt w G b) (n : List UInt8) : BlkAt (w.setCell ⟨G, 0, none⟩ (Sv n)) G ⟨n, b.x, b.y⟩ := by
  unfold BlkAt at *
  rw [setCell_eq_setRow w G 0 _ _ (0, 0) _ h, setRow_heap w G _ _ _ _ h]
  rfl
theorem BlkAt.set1 {w : World} {G : Nat} {b : BlockD} (h : BlkAt w G b) (x : Int) : BlkAt (w.setCell ⟨G, 1, none⟩ (Iv x)) G ⟨b.name, x, b.y⟩ := by
  unfold BlkAt at *
  rw [setCell_eq_setRow w G 1 _ _ (0, 0) _ h, setRow_heap w G _ _ _ _ h]
  rfl
theorem BlkAt.set2 {w : World} {G : Nat} {b : BlockD} (h : BlkAt w G b) (y : Int) : BlkAt (w.setCell ⟨G, 2, none⟩ (Iv y)) G ⟨b.name, b.x, y⟩ := by
  unfold BlkAt at *
  rw [setCell_eq_setRow w G 2 _ _ (0, 0) _ h, setRow_heap w G _ _ _ _ h]
  rfl
theorem BlkAt.set3 {w : World} {G : Nat} {b : BlockD} (h : BlkAt w G b) (n : List UInt8) (x y : Int) : BlkAt (((w.setCell ⟨G, 0, none⟩ (Sv n)).setCell ⟨G, 1, none⟩ (Iv x)).setCell ⟨G, 2, none⟩ (Iv y)) G ⟨n, x, y⟩ := ((h.set0 n).set1 x).set2 y
theorem BlkAt.other {w : World} {G H i : Nat} {b : BlockD} {v : Value} (h : BlkAt w G b) (hn : G ≠ H) : BlkAt (w.setCell ⟨H, i, none⟩ v) G b := (Below.heap_setCell _ _ _ _ hn).trans h
theorem below_set3 {B G : Nat} {w w' : World} (h : Below B w w') (hg : B ≤ G) (u v x : Value) : Below B w (((w'.setCell ⟨G, 0, none⟩ u).setCell ⟨G, 1, none⟩ v).setCell ⟨G, 2, none⟩ x) := below_put (below_put (below_put h hg) hg) hg
set_option maxRecDepth 100000 in
set_option maxHeartbeats 4000000 in
theorem refMirror_c (b : BlockD) (w : World) : Calls Try.prog 31 #[BV b] w fun e w' => e = .returned (.tuple #[BV (mirR b), .int .i64 (oneE b)]) ∧ Below w.heap.size w w' := by
  have h := two_new w b zeroB
  obtain ⟨ha, hb, hw⟩ := h
  have HA := Lib.hid ha
  have HB := Lib.hid hb
  have HW := Lib.hid hw
  obtain ⟨a0, a1, a2⟩ := ha.cell
  clear ha hb hw
  rcases hok : okB b with _ | _
  · have CV := Lib.hid (valid_is b false hok)
    have e1 : mirR b = zeroB := by unfold mirR; rw [hok]; rfl
    have e2 : oneE b = 19 := by unfold oneE; rw [hok]; rfl
    rw [e1, e2]
    clear e1 e2 hok
    go_enter Try.func31, Try.ntmps31
    go_wp2_with fail
    refine (CV.out _).mono ?_
    rintro e w2 ⟨rfl, hb2⟩
    have HB2 := Lib.hid (HW.out.trans (hb2.mono HW.out.size))
    have HBb := Lib.hid (HB.out.keep hb2)
    clear hb2 a0 a1 a2
    obtain ⟨b0, b1, b2⟩ := HBb.out.cell
    have f0 := HBb.out.frozen 0
    have f1 := HBb.out.frozen 1
    have f2 := HBb.out.frozen 2
    go_wp2
    refine bodyPost_ret (results_cell_tmp rfl _ _ (w.heap.size + 1) 23 _ (0, 0) _ rfl (HBb.out.set3 [] 0 0) Try.underlying23 rfl (by kernel_rfl)) rfl ?_
    exact ⟨rfl, below_set3 HB2.out (by omega) _ _ _⟩
  · have CV := Lib.hid (valid_is b true hok)
    have e1 : mirR b = ⟨b.name, b.x, -b.y⟩ := by unfold mirR; rw [hok]; rfl
    have e2 : oneE b = 0 := by unfold oneE; rw [hok]; rfl
    have kb := okB_iff.1 hok
    have hw1 : IntKind.i64.wrap (-b.y) = -b.y := wrap_in (by omega)
    rw [e1, e2]
    clear e1 e2 hok kb
    go_enter Try.func31, Try.ntmps31
    go_wp2_with fail
    refine (CV.out _).mono ?_
    rintro e w2 ⟨rfl, hb2⟩
    have HB2 := Lib.hid (HW.out.trans (hb2.mono HW.out.size))
    have HAb := Lib.hid (HA.out.keep hb2)
    have HBb := Lib.hid (HB.out.keep hb2)
    clear hb2 a0 a1 a2
    obtain ⟨a0, a1, a2⟩ := HAb.out.cell
    have g2 := HAb.out.frozen 2
    obtain ⟨b0, b1, b2⟩ := HBb.out.cell
    have f0 := HBb.out.frozen 0
    have f1 := HBb.out.frozen 1
    have f2 := HBb.out.frozen 2
    go_wp2
    refine bodyPost_ret (results_cell_tmp rfl _ _ (w.heap.size + 1) 23 _ (0, 0) _ rfl ((HBb.out.other (by omega)).set3 b.name b.x (-b.y)) Try.underlying23 rfl (by kernel_rfl)) rfl ?_
    exact ⟨rfl, below_set3 (below_put HB2.out (Nat.le_refl _)) (by omega) _ _ _⟩
theorem tmod4 (q : Int) : q.tmod 4 = q % 4 ∨ q.tmod 4 = q % 4 - 4 ∧ q % 4 ≠ 0 := by
  rw [Int.tmod_eq_emod]
  split
  · left; omega
  · rename_i h
    right
    have : ¬ (4 : Int) ∣ q := fun hd => h (.inr hd)
    omega
theorem rot_bound {b : BlockD} (h : okB b = true) (k : Nat) : -9999 ≤ (rotN b k).x ∧ (rotN b k).x ≤ 9999 ∧ -9999 ≤ (rotN b k).y ∧ (rotN b k).y ≤ 9999 := okB_iff.1 (ok_rot h k)
theorem rotN_name (b : BlockD) : ∀ k, (rotN b k).name = b.name
  | 0 => rfl
  | k + 1 => rotN_name b k
set_option maxRecDepth 100000 in
set_option maxHeartbeats 4000000 in
theorem refRotate_c (b : BlockD) (q : Int) (w : World) : Calls Try.prog 29 #[BV b, .int .i64 q] w fun e w' => e = .returned (.tuple #[BV (rotR b q), .int .i64 (oneE b)]) ∧ Below w.heap.size w w' := by
  have h := two_new w b zeroB
  obtain ⟨ha, hb, hw⟩ := h
  have HA := Lib.hid ha
  have HB := Lib.hid hb
  have HW := Lib.hid hw
  obtain ⟨a0, a1, a2⟩ := ha.cell
  clear ha hb hw
  rcases hok : okB b with _ | _
  · have CV := Lib.hid (valid_is b false hok)
    have e1 : rotR b q = zeroB := by unfold rotR; rw [hok]; rfl
    have e2 : oneE b = 19 := by unfold oneE; rw [hok]; rfl
    rw [e1, e2]
    clear e1 e2 hok
    go_enter Try.func29, Try.ntmps29
    go_wp2_with fail
    refine (CV.out _).mono ?_
    rintro e w2 ⟨rfl, hb2⟩
    have HB2 := Lib.hid (HW.out.trans (hb2.mono HW.out.size))
    have HBb := Lib.hid (HB.out.keep hb2)
    clear hb2 a0 a1 a2
    obtain ⟨b0, b1, b2⟩ := HBb.out.cell
    have f0 := HBb.out.frozen 0
    have f1 := HBb.out.frozen 1
    have f2 := HBb.out.frozen 2
    go_wp2
    refine bodyPost_ret (results_cell_tmp rfl _ _ (w.heap.size + 1) 23 _ (0, 0) _ rfl (HBb.out.set3 [] 0 0) Try.underlying23 rfl (by kernel_rfl)) rfl ?_
    exact ⟨rfl, below_set3 HB2.out (by omega) _ _ _⟩
  · have CV := Lib.hid (valid_is b true hok)
    obtain ⟨r, hr⟩ : ∃ r : Nat, (r : Int) = q % 4 := ⟨(q % 4).toNat, by omega⟩
    have hr4 : r < 4 := by omega
    have e1 : Hid (rotR b q = rotN b r) := Lib.hid (by unfold rotR rotZ; rw [hok, ← hr]; rfl)
    have e2 : oneE b = 0 := by unfold oneE; rw [hok]; rfl
    have HRB := Lib.hid (fun k => rot_bound hok k)
    have HNm := Lib.hid (fun k => rotN_name b k)
    have ht4 := tmod4 q
    have HC := Lib.hid (HA.out)
    obtain ⟨m, hm⟩ : ∃ m, q.tmod 4 = m := ⟨_, rfl⟩
    have hcase : (m = (r : Int)) ∨ (decide (m < 0) = true ∧ m + 4 = r ∧ -4 ≤ m ∧ m ≤ -1) := by
      rw [decide_eq_true_eq]
      rw [hm] at ht4
      rcases ht4 with h | ⟨h1, h2⟩
      · exact .inl (by omega)
      · exact .inr (by omega)
    rw [e2]
    clear e2 hok hr ht4
    go_enter Try.func29, Try.ntmps29
    go_wp2_with fail
    refine (CV.out _).mono ?_
    rintro e w2 ⟨rfl, hb2⟩
    have HB2 := Lib.hid (HW.out.trans (hb2.mono HW.out.size))
    have HAb : Hid (BlkAt w2 w.heap.size (rotN b 0)) := Lib.hid (HA.out.keep hb2)
    have HBb := Lib.hid (HB.out.keep hb2)
    have hsz2 := Nat.lt_of_lt_of_le (show w.heap.size + 1 < w2.heap.size from HBb.out.lt) (Nat.le_refl _)
    clear hb2 a0 a1 a2 HA HB HW HC CV
    rcases hcase with rfl | ⟨hneg, hmr, hm1, hm2⟩
    all_goals
      go_wp2
      go_loopw [6] (fun kv wr => ∃ (k j : Nat), kv = .int .i64 k ∧ k + j = r ∧ Hid (BlkAt wr w.heap.size (rotN b j)) ∧ Hid (BlkAt wr (w.heap.size + 1) zeroB) ∧ Hid (Below w.heap.size w wr)) (fun kv _ => (intOf kv).toNat)
      case atStart => exact ⟨_, 0, by first | rfl | (rw [hmr]), by omega, HAb, HBb, HB2⟩
      case round =>
        clear HAb HBb HB2
        obtain ⟨k', j, rfl, hkj, HA', HB', HW'⟩ := hrel
        by_cases hk : 0 < k'
        · obtain ⟨c0, c1, c2⟩ := HA'.out.cell
          have g1 := HA'.out.frozen 1
          have g2 := HA'.out.frozen 2
          have kb := HRB.out j
          have hw1 : IntKind.i64.wrap (-(rotN b j).y) = -(rotN b j).y := wrap_in (by omega)
          have HS := Lib.hid ((HA'.out.set1 (-(rotN b j).y)).set2 (rotN b j).x)
          have HSB := Lib.hid ((HB'.out.other (i := 1) (v := Iv (-(rotN b j).y)) (show w.heap.size + 1 ≠ w.heap.size by omega)).other (i := 2) (v := Iv (rotN b j).x) (show w.heap.size + 1 ≠ w.heap.size by omega))
          have HSW := Lib.hid (below_put (i := 2) (v := Iv (rotN b j).x) (below_put (i := 1) (v := Iv (-(rotN b j).y)) HW'.out (Nat.le_refl w.heap.size)) (Nat.le_refl w.heap.size))
          have HRot : Hid ((⟨(rotN b j).name, -(rotN b j).y, (rotN b j).x⟩ : BlockD) = rotN b (j + 1)) := Lib.hid rfl
          clear HA' HB' HW' kb
          generalize hx : (rotN b j).x = bx at *
          generalize hy : (rotN b j).y = bY at *
          clear hx hy
          go_wp2
          go_roundw
          case rel => exact ⟨k' - 1, j + 1, by go_num, by omega, Lib.hid (by rw [← HRot.out]; exact HS.out), HSB, HSW⟩
          case measure => simp [intOf]; omega
        · obtain rfl : k' = 0 := by omega
          obtain rfl : j = r := by omega
          obtain ⟨a0, a1, a2⟩ := HA'.out.cell
          obtain ⟨b0, b1, b2⟩ := HB'.out.cell
          have f0 := HB'.out.frozen 0
          have f1 := HB'.out.frozen 1
          have f2 := HB'.out.frozen 2
          go_wp2
          refine bodyPost_ret (results_cell_tmp rfl _ _ (w.heap.size + 1) 23 _ (0, 0) _ rfl (HB'.out.set3 (rotN b j).name (rotN b j).x (rotN b j).y) Try.underlying23 rfl (by kernel_rfl)) rfl ?_
          exact ⟨by rw [e1.out]; rfl, below_set3 HW'.out (by omega) _ _ _⟩
end Go.Proofs.Ytifnmfljlgaeoaa
