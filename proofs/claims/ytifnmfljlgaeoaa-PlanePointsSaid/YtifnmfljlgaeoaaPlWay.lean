/- Contracts of the reference's Square, all, Turns and Area of layer 8. -/
import Derived.Test.YtifnmfljlgaeoaaPlMove
import Derived.Deep.RegionHeld3
import Derived.Deep.RegionWith
import Derived.Deep.RegionLaw
namespace Go.Proofs.Ytifnmfljlgaeoaa
open Go Go.RowKit Fl

def allB (l : List BlockD) : Bool := l.all okB
theorem allB_iff {l : List BlockD} : allB l = true ↔ ∀ b ∈ l, okB b = true := by unfold allB; exact List.all_eq_true
set_option maxRecDepth 100000 in
set_option maxHeartbeats 4000000 in
theorem all_c (A : Option Addr) (c : Nat) (l : List BlockD) (w : World) (hh : Holds w A (blockCells l)) (hl : l.length ≤ 1000000000000000000) : Calls Try.prog 34 #[.slice A l.length c] w fun e w' => e = .returned (.bool (allB l)) ∧ Below w.heap.size w w' := by
  have HH := Lib.hid hh
  clear hh
  have HAll : Hid ((∀ i (h : i < l.length), okB l[i] = true) → allB l = true) := Lib.hid (fun h => allB_iff.2 fun b hb => by
    obtain ⟨i, hi, rfl⟩ := List.mem_iff_getElem.1 hb
    exact h i hi)
  have HNot : Hid (∀ i (h : i < l.length), okB l[i] = false → allB l = false) := Lib.hid (fun i hi h => by
    rcases e : allB l with _ | _
    · rfl
    · rw [allB_iff.1 e _ (List.getElem_mem hi)] at h
      cases h)
  generalize allB l = al at *
  go_enter Try.func34, Try.ntmps34
  go_wp2
  go_loopw [3] (fun kv wr => ∃ k : Nat, kv = .int .i64 k ∧ k ≤ l.length ∧ Hid (∀ i (h : i < l.length), i < k → okB l[i] = true) ∧ Hid (Below w.heap.size w wr)) (fun kv _ => l.length - (intOf kv).toNat)
  case atStart => exact ⟨0, rfl, Nat.zero_le _, Lib.hid (fun i h hi => by omega), Lib.hid (Below.refl _ _)⟩
  case round =>
    obtain ⟨k, rfl, hk, HK, HW⟩ := hrel
    by_cases hlt : k < l.length
    · obtain ⟨b, o, rfl, hbl, hba⟩ := HH.out.block hlt
      have hba2 := hba.keep hbl HW.out
      obtain ⟨b0, b1, b2⟩ := hba2
      rcases hok : okB l[k] with _ | _
      · have CV := Lib.hid (valid_is l[k] false hok wr)
        have hal := HNot.out k hlt hok
        subst hal
        clear hba hok HAll HNot HK
        generalize l[k] = bk at *
        go_wp2_with fail
        refine CV.out.mono ?_
        rintro e w2 ⟨rfl, hb2⟩
        have HB2 := Lib.hid (HW.out.trans (hb2.mono HW.out.size))
        clear hb2 b0 b1 b2 CV HW
        go_wp2
        go_ret
        exact ⟨rfl, HB2.out⟩
      · have CV := Lib.hid (valid_is l[k] true hok wr)
        have HK2 : Hid (∀ i (h : i < l.length), i < k + 1 → okB l[i] = true) := Lib.hid (fun i h hi => by
          rcases Nat.lt_succ_iff_lt_or_eq.1 hi with h1 | rfl
          · exact HK.out i h h1
          · exact hok)
        clear hba hok HK
        generalize l[k] = bk at *
        go_wp2_with fail
        refine CV.out.mono ?_
        rintro e w2 ⟨rfl, hb2⟩
        have HB2 := Lib.hid (HW.out.trans (hb2.mono HW.out.size))
        clear hb2 b0 b1 b2 CV HW
        go_wp2
        go_roundw
        case rel => exact ⟨k + 1, by go_num, by omega, HK2, HB2⟩
        case measure => simp [intOf]; omega
    · have hal := HAll.out fun i hi => HK.out i hi (by omega)
      subst hal
      clear HAll HNot HK
      go_wp2
      go_ret
      exact ⟨rfl, HW.out⟩
def wayE (l : List BlockD) : Int := if 48 < l.length then 14 else if allB l then 0 else 19
def turnsR (l : List BlockD) : List Int := if wayE l = 0 then turnsK l (l.length - 2) else []
def areaR (l : List BlockD) : Int := if wayE l = 0 then areaZ l else 0
theorem wayE_cases (l : List BlockD) : (48 < l.length ∧ wayE l = 14) ∨ (l.length ≤ 48 ∧ allB l = false ∧ wayE l = 19) ∨ (l.length ≤ 48 ∧ allB l = true ∧ wayE l = 0) := by
  unfold wayE
  by_cases h : 48 < l.length
  · exact .inl ⟨h, if_pos h⟩
  · rw [if_neg h]
    rcases h2 : allB l with _ | _
    · exact .inr (.inl ⟨by omega, rfl, rfl⟩)
    · exact .inr (.inr ⟨by omega, rfl, rfl⟩)
set_option maxRecDepth 100000 in
set_option maxHeartbeats 4000000 in
theorem refTurns_c (A : Option Addr) (c : Nat) (l : List BlockD) (w : World) (hh : Holds w A (blockCells l)) (hl : l.length ≤ 1000000000000000000) : Calls Try.prog 14 #[.slice A l.length c] w fun e w' => ∃ u, e = .returned (.tuple #[u, .int .i64 (wayE l)]) ∧ w'.ownsRow w.heap.size 3 1 u (turnsR l).length ((turnsR l).map Iv) ∧ Below w.heap.size w w' := by
  have CA := Lib.hid (all_c A c l w hh hl)
  rcases wayE_cases l with ⟨h1, h2⟩ | ⟨h1, h2, h3⟩ | ⟨h1, h2, h3⟩
  · have e1 : Hid (turnsR l = []) := Lib.hid (by unfold turnsR; rw [if_neg (by rw [h2]; decide)])
    have hd : decide (48 < l.length) = true := by simpa using h1
    rw [h2]
    clear h2 hh CA
    go_enter Try.func14, Try.ntmps14
    go_wp2
    go_ret2
    exact ⟨_, rfl, by rw [e1.out]; exact World.ownsRow_nil _ _ _ _, Below.refl _ _⟩
  · have e1 : Hid (turnsR l = []) := Lib.hid (by unfold turnsR; rw [if_neg (by rw [h3]; decide)])
    have hd : decide (48 < l.length) = false := by simp; omega
    rw [h2] at CA
    rw [h3]
    clear h3 hh h2
    go_enter Try.func14, Try.ntmps14
    go_wp2_with fail
    refine CA.out.mono ?_
    rintro e w1 ⟨rfl, hb1⟩
    have HB1 := Lib.hid hb1
    clear hb1 CA
    go_wp2
    go_ret2
    exact ⟨_, rfl, by rw [e1.out]; exact World.ownsRow_nil _ _ _ _, HB1.out⟩
  · have e1 : Hid (turnsR l = turnsK l (l.length - 2)) := Lib.hid (by unfold turnsR; rw [if_pos h3])
    have hd : decide (48 < l.length) = false := by simp; omega
    have HOk := Lib.hid (allB_iff.1 h2)
    have HH := Lib.hid hh
    rw [h2] at CA
    rw [h3]
    clear h3 hh h2
    go_enter Try.func14, Try.ntmps14
    go_wp2_with fail
    refine CA.out.mono ?_
    rintro e w1 ⟨rfl, hb1⟩
    have HB1 := Lib.hid hb1
    have HO1 : Hid (w1.ownsRow w.heap.size 3 1 (.slice none 0 0) (turnsK l 0).length ((turnsK l 0).map Iv)) := Lib.hid (World.ownsRow_nil _ _ _ _)
    clear hb1 CA
    go_wp2
    go_loopw [4, 5, 6, 7] (fun v iv _ _ wr => ∃ k : Nat, iv = .int .i64 ((k : Int) + 1) ∧ (k = 0 ∨ k + 2 ≤ l.length) ∧ Hid (wr.ownsRow w.heap.size 3 1 v (turnsK l k).length ((turnsK l k).map Iv)) ∧ Hid (Below w.heap.size w wr)) (fun _ iv _ _ _ => l.length - (intOf iv).toNat)
    case atStart => exact ⟨0, rfl, .inl rfl, HO1, HB1⟩
    case round =>
      clear HO1
      obtain ⟨k, rfl, hk, HO, HW⟩ := hrel
      have hw0 : IntKind.i64.wrap ((k : Int) + 1 + 1) = (k : Int) + 1 + 1 := wrap_in (by omega)
      have hkl : (turnsK l k).length ≤ 1000 := by rw [turnsK_len]; omega
      by_cases hlt : k + 2 < l.length
      · obtain ⟨b, o, rfl, hbl, hba⟩ := HH.out.block (k := k) (by omega)
        obtain ⟨b', o', hE, _, hbb⟩ := HH.out.block (k := k + 1) (by omega)
        injection hE with hE
        injection hE with hE1 hE2
        subst hE1 hE2
        obtain ⟨b', o', hE, _, hbc⟩ := HH.out.block (k := k + 2) (by omega)
        injection hE with hE
        injection hE with hE1 hE2
        subst hE1 hE2
        obtain ⟨a0, a1, a2⟩ := hba.keep hbl (HW.out)
        obtain ⟨b0, b1, b2⟩ := hbb.keep hbl HW.out
        obtain ⟨c0, c1, c2⟩ := hbc.keep hbl HW.out
        have CT := Lib.hid (fun W => turnOk_c l[k] l[k + 1] l[k + 2] (HOk.out _ (List.getElem_mem _)) (HOk.out _ (List.getElem_mem _)) (HOk.out _ (List.getElem_mem _)) W)
        have HS : Hid (turnsK l (k + 1) = turnsK l k ++ [turnZ l[k] l[k + 1] l[k + 2]]) := Lib.hid (by rw [turnsK_succ, atW_get (by omega), atW_get (by omega), atW_get (by omega)])
        have hw1 : IntKind.i64.wrap ((k : Int) + 1 - 1) = (k : Int) := by rw [Int.add_sub_cancel]; exact wrap_in (by omega)
        clear hba hbb hbc
        generalize turnZ l[k] l[k + 1] l[k + 2] = tz at *
        generalize l[k] = x at *
        generalize l[k + 1] = y at *
        generalize l[k + 2] = z at *
        have hw2 : IntKind.i64.wrap (k : Int) = (k : Int) := wrap_in (by omega)
        have hN : ((k : Int) + 1 + 1).toNat = k + 2 := by omega
        have hI0 : k < l.length := by omega
        have hI1 : (k : Int) + 1 < (l.length : Int) := by omega
        have hI2 : (k : Int) + 1 + 1 < (l.length : Int) := by omega
        have hI3 : (0 : Int) ≤ (k : Int) + 1 := by omega
        have hI4 : (0 : Int) ≤ (k : Int) + 1 + 1 := by omega
        go_wp2_with fail
        go_region_law (go_simp; go_at_call 27; refine (CT.out _).mono ?_; rintro e w9 ⟨rfl, hb9⟩)
        all_goals
          have hb9' : Below wr.heap.size wr w9 := ((Below.refl wr.heap.size wr).drew).trans hb9
          have HW9 := Lib.hid (HW.out.trans (hb9'.mono HW.out.size))
          have HO9 := Lib.hid (ownsRow_below HO.out hb9')
          have HBa := Lib.hid (own_base HO9.out)
          have hws : w.heap.size ≤ w9.heap.size := HW9.out.size
          clear hb9 hb9' a0 a1 a2 b0 b1 b2 c0 c1 c2 HO HW CT
          go_wp2_with (at_builtin; refine app_int _ rfl _ _ rfl w.heap.size _ _ _ rfl (HO9.out.alloc _) _ tz rfl (by rw [cell_of_row _ _ 0 _ _ _ (heap_alloc_new w9 _)]; rfl) (by omega) (by simp; omega) ?_)
          intro v' w' hown hgrow
          have HO8 : Hid (w'.ownsRow w.heap.size 3 1 v' (turnsK l (k + 1)).length ((turnsK l (k + 1)).map Iv)) := Lib.hid (by rw [HS.out]; simpa using hown)
          have HW8 : Hid (Below w.heap.size w w') := Lib.hid ((HW9.out.alloc hws _).grown hgrow (by simp; omega) (fun q hq => HBa.out q hq))
          clear hown hgrow HBa HO9 HW9
          go_wp2
          go_roundw
          case rel => exact ⟨k + 1, by go_num, .inr (by omega), HO8, HW8⟩
          case measure => simp [intOf]; omega
      · have HF : Hid (turnsK l k = turnsR l) := Lib.hid (by rw [e1.out]; congr 1; omega)
        go_wp2
        go_ret2
        exact ⟨_, rfl, by rw [← HF.out]; exact HO.out, HW.out⟩
end Go.Proofs.Ytifnmfljlgaeoaa
