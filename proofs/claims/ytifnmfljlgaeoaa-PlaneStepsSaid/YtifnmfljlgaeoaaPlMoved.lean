/- Contract of the statements' moved: blocks rotated and mirrored. -/
import Derived.Test.YtifnmfljlgaeoaaPlKnown
namespace Go.Proofs.Ytifnmfljlgaeoaa
open Go Go.RowKit Fl

def moveZ (q : Int) (z : Bool) (b : BlockD) : BlockD := if z then mirZ (rotZ b q) else rotZ b q
theorem rot_okZ {b : BlockD} (h : okB b = true) (q : Int) : okB (rotZ b q) = true := ok_rot h _
theorem rotR_ok {b : BlockD} (h : okB b = true) (q : Int) : rotR b q = rotZ b q ∧ oneE b = 0 := by
  unfold rotR oneE
  rw [h]
  exact ⟨rfl, rfl⟩
theorem mirR_ok {b : BlockD} (h : okB b = true) : mirR b = mirZ b ∧ oneE b = 0 := by
  unfold mirR oneE
  rw [h]
  exact ⟨rfl, rfl⟩
set_option maxRecDepth 100000 in
set_option maxHeartbeats 8000000 in
theorem moved_c (hR : DevRotate) (hM : DevMirror) (A : Option Addr) (c n : Nat) (l : List BlockD) (q : Int) (hq : -9223372036854775808 ≤ q ∧ q ≤ 9223372036854775807) (z : Bool) (w : World) (hw : MadeW n l) (hh : Holds w A (blockCells l)) (hn : n ≤ 1000) :
    Calls Try.prog 18 #[.slice A n c, .int .i64 q, .bool z] w fun e w' => ∃ X cx, e = .returned (.tuple #[.slice X n cx, .bool true]) ∧ Holds w' X (blockCells (l.map (moveZ q z))) ∧ Below w.heap.size w w' := by
  have HH := Lib.hid hh
  have HM := Lib.hid hw
  have HR := Lib.hid (fun (b : BlockD) (W : World) (h : okB b = true) (hnm : b.name = []) => (by
    have h1 := hR b q W (by rw [hnm]; simp) hq
    rw [(rotR_ok h q).1, (rotR_ok h q).2] at h1
    exact h1 : Calls Try.prog 21 #[BV b, .int .i64 q] W fun e w' => e = .returned (.tuple #[BV (rotZ b q), .int .i64 0]) ∧ Below W.heap.size W w'))
  have HMi := Lib.hid (fun (b : BlockD) (W : World) (h : okB b = true) (hnm : b.name = []) => (by
    have h1 := hM b W (by rw [hnm]; simp)
    rw [(mirR_ok h).1, (mirR_ok h).2] at h1
    exact h1 : Calls Try.prog 30 #[BV b] W fun e w' => e = .returned (.tuple #[BV (mirZ b), .int .i64 0]) ∧ Below W.heap.size W w'))
  clear hR hM hw hh hq
  go_enter Try.func18, Try.ntmps18
  go_wp2
  obtain ⟨gt, hgt⟩ : ∃ gt, gt = w.heap.size := ⟨_, rfl⟩
  have HGT := Lib.hid hgt
  have HB0 : Hid (Below gt w w) := Lib.hid (Below.refl _ _)
  have hsz0 : gt ≤ w.heap.size := by omega
  clear hgt
  have HO : Hid (w.ownsRow gt 23 3 (.slice none 0 0) ((l.take 0).map (moveZ q z)).length (blockCells ((l.take 0).map (moveZ q z)))) := Lib.hid (World.ownsRow_nil _ _ _ _)
  go_loopw [8, 9, 10, 11] (fun v kv _ _ wr => ∃ (m : Nat), kv = .int .i64 m ∧ m ≤ n ∧ Hid (wr.ownsRow gt 23 3 v ((l.take m).map (moveZ q z)).length (blockCells ((l.take m).map (moveZ q z)))) ∧ Hid (Below gt w wr) ∧ gt ≤ wr.heap.size) (fun _ kv _ _ _ => n - (intOf kv).toNat)
  case atStart => exact ⟨0, rfl, Nat.zero_le _, HO, HB0, hsz0⟩
  case round =>
    clear HO HB0 hsz0
    obtain ⟨m, rfl, hm, HOw, HB, hsz⟩ := hrel
    by_cases hlt : m < n
    · have hml : m < l.length := by have := HM.out.1; omega
      have hok := (HM.out.2 _ (List.getElem_mem hml)).1
      have hnm := (HM.out.2 _ (List.getElem_mem hml)).2
      obtain ⟨b, o, rfl, hbl, hba⟩ := HH.out.block hml
      have hbg : b < gt := by have := HGT.out; omega
      obtain ⟨b0, b1, b2⟩ := hba.keep hbg HB.out
      have HTk : Hid ((l.take (m + 1)).map (moveZ q z) = (l.take m).map (moveZ q z) ++ [moveZ q z l[m]]) := Lib.hid (by rw [List.take_succ_eq_append_getElem hml, List.map_append]; rfl)
      have hlen : ((l.take m).map (moveZ q z)).length ≤ 1000000 := by rw [List.length_map, List.length_take]; omega
      have HC := Lib.hid (HR.out l[m] wr hok hnm)
      have HRo := Lib.hid (rot_okZ hok q)
      have HRn : Hid ((rotZ l[m] q).name = []) := Lib.hid ((rotN_name l[m] _).trans hnm)
      have HMz : Hid (z = false → moveZ q z l[m] = rotZ l[m] q) := Lib.hid (fun h => by unfold moveZ; rw [h]; rfl)
      have HMo : Hid (z = true → moveZ q z l[m] = mirZ (rotZ l[m] q)) := Lib.hid (fun h => by unfold moveZ; rw [h]; rfl)
      clear hba hok hbl hnm
      generalize moveZ q z l[m] = fin at *
      generalize rotZ l[m] q = rb at *
      generalize l[m] = x at *
      generalize (l.take m).map (moveZ q z) = done at *
      go_wp2_with fail
      refine HC.out.mono ?_
      rintro e w2 ⟨rfl, hb2⟩
      have HB2 := Lib.hid (HB.out.trans (hb2.mono hsz))
      have HO2 := Lib.hid (ownB_to HOw.out fun k _ hk => hb2.block k hk)
      have hsz2 := Nat.le_trans hsz hb2.size
      clear hb2 b0 b1 b2 HOw HB HC
      rcases z with _ | _
      · obtain rfl := HMz.out rfl
        clear HMz HMo
        have hbk := box_new w2 fin
        have hba3 := below_newP w2 (.cells #[Sv fin.name, Iv fin.x, Iv fin.y] 23)
        have HK3 := Lib.hid hbk
        have HO3 := Lib.hid (HO2.out.alloc (.cells #[Sv fin.name, Iv fin.x, Iv fin.y] 23))
        have HB3 := Lib.hid (HB2.out.alloc hsz2 (.cells #[Sv fin.name, Iv fin.x, Iv fin.y] 23))
        have hsz3 : gt ≤ (w2.alloc (.cells #[Sv fin.name, Iv fin.x, Iv fin.y] 23)).heap.size := by simp; omega
        obtain ⟨d0, d1, d2⟩ := hbk.cell
        clear hbk hba3 HO2 HB2
        go_upto_region 6 with fail
        generalize hH : w2.heap.size = H at *
        clear hH
        generalize w2.alloc (.cells #[Sv fin.name, Iv fin.x, Iv fin.y] 23) = w3 at *
        have HBa := Lib.hid (ownB_base HO3.out)
        go_wp2_with (at_builtin; refine app_block _ rfl _ _ rfl gt _ done rfl (HO3.out.alloc _) _ fin rfl (box_new w3 fin) hlen (by simp; omega) ?_)
        intro v' w' hown hgrow
        have HO9 : Hid (w'.ownsRow gt 23 3 v' ((l.take (m + 1)).map (moveZ q false)).length (blockCells ((l.take (m + 1)).map (moveZ q false)))) := Lib.hid (by rw [HTk.out]; simpa using hown)
        have HB9 : Hid (Below gt w w') := Lib.hid ((HB3.out.alloc (by omega) _).grown hgrow (by simp; omega) (fun q hq => by have := HBa.out q hq; omega))
        have hsz9 : gt ≤ w'.heap.size := by have := hgrow.size; simp at this; omega
        clear hown hgrow HBa
        go_wp2
        go_roundw
        case rel => exact ⟨m + 1, by go_num, by omega, HO9, HB9, hsz9⟩
        case measure => simp [intOf]; omega
      · have hbk := box_new w2 rb
        have HK3 := Lib.hid hbk
        have HQ := Lib.hid (ownB_lt HO2.out)
        have HO3 := Lib.hid (HO2.out.alloc (.cells #[Sv rb.name, Iv rb.x, Iv rb.y] 23))
        have HB3 := Lib.hid (HB2.out.alloc hsz2 (.cells #[Sv rb.name, Iv rb.x, Iv rb.y] 23))
        have hsz3 : gt ≤ (w2.alloc (.cells #[Sv rb.name, Iv rb.x, Iv rb.y] 23)).heap.size := by simp; omega
        have hHg : gt ≤ w2.heap.size := hsz2
        obtain ⟨d0, d1, d2⟩ := hbk.cell
        clear hbk HO2 HB2
        go_upto_region 6 with fail
        generalize hH : w2.heap.size = H at *
        clear hH
        generalize w2.alloc (.cells #[Sv rb.name, Iv rb.x, Iv rb.y] 23) = w3 at *
        have HMc := Lib.hid (HMi.out rb w3 HRo.out HRn.out)
        go_wp2_with fail
        refine HMc.out.mono ?_
        rintro e w4 ⟨rfl, hb4⟩
        have HO4 := Lib.hid (ownB_to HO3.out fun k _ hk => hb4.block k hk)
        have HB4 := Lib.hid (HB3.out.trans (hb4.mono hsz3))
        have hsz4 := Nat.le_trans hsz3 hb4.size
        have HK4 := Lib.hid (HK3.out.keep hb4)
        clear hb4 d0 d1 d2 HK3 HO3 HB3 HMc
        obtain ⟨d0, d1, d2⟩ := HK4.out.cell
        have f0 := HK4.out.frozen 0
        have f1 := HK4.out.frozen 1
        have f2 := HK4.out.frozen 2
        have hg9 := set3_grown w4 H (Sv (mirZ rb).name) (Iv (mirZ rb).x) (Iv (mirZ rb).y)
        have HK5 := Lib.hid (HK4.out.set3 (mirZ rb).name (mirZ rb).x (mirZ rb).y)
        have HO5 : Hid ((((w4.setCell ⟨H, 0, none⟩ (Sv (mirZ rb).name)).setCell ⟨H, 1, none⟩ (Iv (mirZ rb).x)).setCell ⟨H, 2, none⟩ (Iv (mirZ rb).y)).ownsRow gt 23 3 u8 done.length (blockCells done)) := Lib.hid (ownB_to HO4.out fun q hq _ => set3_far _ _ _ _ _ q (by have := HQ.out q hq; omega))
        have HB5 : Hid (Below gt w (((w4.setCell ⟨H, 0, none⟩ (Sv (mirZ rb).name)).setCell ⟨H, 1, none⟩ (Iv (mirZ rb).x)).setCell ⟨H, 2, none⟩ (Iv (mirZ rb).y))) := Lib.hid (below_set3 HB4.out hHg _ _ _)
        have hsz5 : gt ≤ (((w4.setCell ⟨H, 0, none⟩ (Sv (mirZ rb).name)).setCell ⟨H, 1, none⟩ (Iv (mirZ rb).x)).setCell ⟨H, 2, none⟩ (Iv (mirZ rb).y)).heap.size := Nat.le_trans hsz4 hg9.size
        have HMo2 := Lib.hid (HMo.out (by first | trivial | rfl))
        clear hg9 HO4 HB4 HK4
        go_upto_region 12 with fail
        clear d0 d1 d2 f0 f1 f2
        generalize (((w4.setCell ⟨H, 0, none⟩ (Sv (mirZ rb).name)).setCell ⟨H, 1, none⟩ (Iv (mirZ rb).x)).setCell ⟨H, 2, none⟩ (Iv (mirZ rb).y)) = w5 at *
        obtain ⟨d0, d1, d2⟩ := HK5.out.cell
        generalize mirZ rb = mb at *
        obtain rfl := HMo2.out
        have HBa := Lib.hid (ownB_base HO5.out)
        go_wp2_with (at_builtin; refine app_block _ rfl _ _ rfl gt _ done rfl (HO5.out.alloc _) _ fin rfl (box_new w5 fin) hlen (by simp; omega) ?_)
        intro v' w' hown hgrow
        have HO9 : Hid (w'.ownsRow gt 23 3 v' ((l.take (m + 1)).map (moveZ q true)).length (blockCells ((l.take (m + 1)).map (moveZ q true)))) := Lib.hid (by rw [HTk.out]; simpa using hown)
        have HB9 : Hid (Below gt w w') := Lib.hid ((HB5.out.alloc (by omega) _).grown hgrow (by simp; omega) (fun q hq => by have := HBa.out q hq; omega))
        have hsz9 : gt ≤ w'.heap.size := by have := hgrow.size; simp at this; omega
        clear hown hgrow HBa
        go_wp2
        go_roundw
        case rel => exact ⟨m + 1, by go_num, by omega, HO9, HB9, hsz9⟩
        case measure => simp [intOf]; omega
    · obtain rfl : m = n := by omega
      have HL : Hid (l.take m = l) := Lib.hid (List.take_of_length_le (by have := HM.out.1; omega))
      obtain ⟨X, cx, rfl, hX⟩ := own_blocks HOw.out
      have hll : ((l.take m).map (moveZ q z)).length = m := by rw [HL.out, List.length_map]; exact HM.out.1
      have HX : Hid (Holds wr X (blockCells (l.map (moveZ q z)))) := Lib.hid (by rw [HL.out] at hX; exact hX)
      have HLL := Lib.hid hll
      clear hX hll
      go_wp2
      go_ret2
      rw [HLL.out]
      exact ⟨X, cx, rfl, HX.out, by rw [← HGT.out]; exact HB.out⟩
end Go.Proofs.Ytifnmfljlgaeoaa
