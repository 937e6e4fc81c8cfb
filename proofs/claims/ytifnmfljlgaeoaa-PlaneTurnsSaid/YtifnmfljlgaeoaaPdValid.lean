/- Contracts of plane's coordinate, valid and checkList. -/
import Derived.Test.YtifnmfljlgaeoaaPdCpx
namespace Go.Proofs.Ytifnmfljlgaeoaa
open Go Go.RowKit Fl

def okC (n : Int) : Bool := decide (-9999 ≤ n ∧ n ≤ 9999)
theorem okB_two (b : BlockD) : okB b = (okC b.x && okC b.y) := by
  unfold okB okC
  rw [Bool.eq_iff_iff]
  simp only [Bool.and_eq_true, decide_eq_true_eq]
  omega
set_option maxRecDepth 100000 in
set_option maxHeartbeats 4000000 in
theorem coord_c (n : Int) (w : World) : Calls Try.prog 39 #[.int .i64 n] w fun e w' => e = .returned (.bool (okC n)) ∧ w' = w := by
  have hcase : (decide (-9999 ≤ n) = false ∧ okC n = false) ∨ (decide (-9999 ≤ n) = true ∧ okC n = decide (n ≤ 9999)) := by
    unfold okC
    simp only [decide_eq_true_eq, decide_eq_false_iff_not, decide_eq_decide]
    omega
  rcases hcase with ⟨h1, h2⟩ | ⟨h1, h2⟩
  all_goals
    rw [h2]
    clear h2
    go_enter Try.func39, Try.ntmps39
    go_wp2
    go_ret
    exact ⟨rfl, rfl⟩
theorem coord_is {n : Int} {z : Bool} (h : okC n = z) (w : World) : Calls Try.prog 39 #[.int .i64 n] w fun e w' => e = .returned (.bool z) ∧ w' = w := h ▸ coord_c n w
set_option maxRecDepth 100000 in
set_option maxHeartbeats 4000000 in
theorem devValid_c (A : Option Addr) (c : Nat) (l : List BlockD) (w : World) (hh : Holds w A (blockCells l)) (hl : l.length ≤ 1000000000000000000) : Calls Try.prog 36 #[.slice A l.length c] w fun e w' => e = .returned (.bool (allB l)) ∧ Below w.heap.size w w' := by
  have HH := Lib.hid hh
  clear hh
  have HAll : Hid ((∀ i (h : i < l.length), okB l[i] = true) → allB l = true) := Lib.hid (fun h => allB_iff.2 fun b hb => by
    obtain ⟨i, hi, rfl⟩ := List.mem_iff_getElem.1 hb
    exact h i hi)
  have HNot : Hid (∀ i (h : i < l.length), okB l[i] = false → allB l = false) := Lib.hid (fun i hi h => by
    rcases e : allB l with _ | _
    · rfl
    · rw [allB_iff.1 e _ (List.getElem_mem hi)] at h
      cases h)
  generalize allB l = al at *
  go_enter Try.func36, Try.ntmps36
  go_wp2
  go_loopw [7] (fun kv wr => ∃ k : Nat, kv = .int .i64 k ∧ k ≤ l.length ∧ Hid (∀ i (h : i < l.length), i < k → okB l[i] = true) ∧ Hid (Below w.heap.size w wr)) (fun kv _ => l.length - (intOf kv).toNat)
  case atStart => exact ⟨0, rfl, Nat.zero_le _, Lib.hid (fun i h hi => by omega), Lib.hid (Below.refl _ _)⟩
  case round =>
    obtain ⟨k, rfl, hk, HK, HW⟩ := hrel
    by_cases hlt : k < l.length
    · obtain ⟨b, o, rfl, hbl, hba⟩ := HH.out.block hlt
      have hba2 := hba.keep hbl HW.out
      obtain ⟨b0, b1, b2⟩ := hba2
      have h2 := okB_two l[k]
      have HWn := Lib.hid (below_newP wr (.cells #[Sv l[k].name, Iv l[k].x, Iv l[k].y] 23))
      have HW2 := Lib.hid (HW.out.trans (HWn.out.mono HW.out.size))
      have HBx := Lib.hid (box_new wr l[k])
      rcases hx : okC l[k].x with _ | _
      · have CV := Lib.hid (coord_is hx)
        rw [hx] at h2
        have hal := HNot.out k hlt h2
        subst hal
        clear hba h2 HAll HNot HK hx
        generalize l[k] = bk at *
        go_wp2_with fail
        refine (CV.out _).mono ?_
        rintro e w2 ⟨rfl, rfl⟩
        clear b0 b1 b2 CV HW
        go_wp2
        go_ret
        exact ⟨rfl, HW2.out⟩
      · rcases hy : okC l[k].y with _ | _
        · have CV := Lib.hid (coord_is hx)
          have CW := Lib.hid (coord_is hy)
          rw [hx, hy] at h2
          have hal := HNot.out k hlt h2
          subst hal
          clear hba h2 HAll HNot HK hx hy
          generalize l[k] = bk at *
          go_wp2_with fail
          refine (CV.out _).mono ?_
          rintro e w2 ⟨rfl, rfl⟩
          clear b0 b1 b2 CV HW
          go_wp2_with fail
          refine (CW.out _).mono ?_
          rintro e w2 ⟨rfl, rfl⟩
          go_wp2
          go_ret
          exact ⟨rfl, HW2.out⟩
        · have CV := Lib.hid (coord_is hx)
          have CW := Lib.hid (coord_is hy)
          rw [hx, hy] at h2
          have HK2 : Hid (∀ i (h : i < l.length), i < k + 1 → okB l[i] = true) := Lib.hid (fun i h hi => by
            rcases Nat.lt_succ_iff_lt_or_eq.1 hi with h1 | rfl
            · exact HK.out i h h1
            · exact h2)
          clear hba h2 HK hx hy
          generalize l[k] = bk at *
          go_wp2_with fail
          refine (CV.out _).mono ?_
          rintro e w2 ⟨rfl, rfl⟩
          clear b0 b1 b2 CV HW
          go_wp2_with fail
          refine (CW.out _).mono ?_
          rintro e w2 ⟨rfl, rfl⟩
          go_wp2
          go_roundw
          case rel => exact ⟨k + 1, by go_num, by omega, HK2, HW2⟩
          case measure => simp [intOf]; omega
    · have hal := HAll.out fun i hi => HK.out i hi (by omega)
      subst hal
      clear HAll HNot HK
      go_wp2
      go_ret
      exact ⟨rfl, HW.out⟩
set_option maxRecDepth 100000 in
set_option maxHeartbeats 4000000 in
theorem devCheck_c (A : Option Addr) (c : Nat) (l : List BlockD) (w : World) (hh : Holds w A (blockCells l)) (hl : l.length ≤ 1000000000000000000) : Calls Try.prog 32 #[.slice A l.length c] w fun e w' => e = .returned (.int .i64 (wayE l)) ∧ Below w.heap.size w w' := by
  have CA := Lib.hid (devValid_c A c l w hh hl)
  rcases wayE_cases l with ⟨h1, h2⟩ | ⟨h1, h2, h3⟩ | ⟨h1, h2, h3⟩
  · have hd : decide (48 < l.length) = true := by simpa using h1
    rw [h2]
    clear h2 hh CA
    go_enter Try.func32, Try.ntmps32
    go_wp2
    go_ret
    exact ⟨rfl, Below.refl _ _⟩
  all_goals
    have hd : decide (48 < l.length) = false := by simp; omega
    rw [h2] at CA
    rw [h3]
    clear h3 hh h2
    go_enter Try.func32, Try.ntmps32
    go_wp2_with fail
    refine CA.out.mono ?_
    rintro e w1 ⟨rfl, hb1⟩
    have HB1 := Lib.hid hb1
    clear hb1 CA
    go_wp2
    go_ret
    exact ⟨rfl, HB1.out⟩
end Go.Proofs.Ytifnmfljlgaeoaa
