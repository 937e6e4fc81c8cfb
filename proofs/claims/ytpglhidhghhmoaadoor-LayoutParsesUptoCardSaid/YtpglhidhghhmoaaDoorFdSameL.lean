/- Contract of the verifier's SameLines: it reports whether two lists of lines are the same. -/
import Derived.Test.YtpglhidhghhmoaaDoorFdSame
namespace Go.Proofs.YtpglhidhghhmoaaDoor
open Go.RowKit Fl
attribute [local go_sem] bget

abbrev LineD := Nat × List (List UInt8)
theorem lineCells_at : ∀ (ls : List LineD) (fvs : List Value) (k : Nat), fvs.length = ls.length → (h : k < ls.length) → ∃ fv, fvs[k]? = some fv ∧ (lineCells ls fvs)[k * 2]? = some (.int .i64 (ls[k].1 : Int)) ∧ (lineCells ls fvs)[k * 2 + 1]? = some fv
  | l :: ls, fv :: fvs, 0, _, _ => ⟨fv, rfl, rfl, rfl⟩
  | l :: ls, fv :: fvs, k + 1, hl, h => by
    obtain ⟨v, h1, h2, h3⟩ := lineCells_at ls fvs k (by simpa using hl) (by simpa using h)
    refine ⟨v, by simpa using h1, ?_, ?_⟩
    · rw [show (k + 1) * 2 = k * 2 + 1 + 1 by omega]; simpa [lineCells] using h2
    · rw [show (k + 1) * 2 + 1 = k * 2 + 1 + 1 + 1 by omega]; simpa [lineCells] using h3
  | [], _, k, _, h => by simp at h
  | _ :: _, [], _, hl, _ => by simp at hl
theorem Holds.get {w : World} {A : Option Addr} {xs : List Value} (h : Holds w A xs) {b o : Nat} (hA : A = some ⟨b, o, none⟩) {j : Nat} {u : Value} (hu : xs[j]? = some u) : w.cell? ⟨b, o + j, none⟩ = some u := by
  rcases h with rfl | ⟨b', o', hA', _, hc⟩
  · simp at hu
  · rw [hA] at hA'
    injection hA' with hA'
    injection hA' with hb ho
    subst hb ho
    obtain ⟨hj, he⟩ := List.getElem?_eq_some_iff.1 hu
    rw [hc j hj, he]
/-- Line k of lines in memory: its number, its fields' slice, and what that holds. -/
theorem LinesAt.line {w : World} {A : Option Addr} {c : Nat} {ls : List LineD} (h : LinesAt w (.slice A ls.length c) ls) {k : Nat} (hk : k < ls.length) :
    ∃ b o A' c', A = some ⟨b, o, none⟩ ∧ w.cell? ⟨b, o + k * 2, none⟩ = some (.int .i64 (ls[k].1 : Int)) ∧ w.cell? ⟨b, o + k * 2 + 1, none⟩ = some (.slice A' ls[k].2.length c') ∧ Holds w A' (ls[k].2.map S) := by
  obtain ⟨A0, c0, fvs, hv, hl, hh, hf⟩ := h
  injection hv with hA _ _
  subst hA
  obtain ⟨fv, h1, h2, h3⟩ := lineCells_at ls fvs k hl hk
  obtain ⟨A', c', hfv, hH⟩ := hf k fv ls[k] h1 (List.getElem?_eq_getElem hk)
  obtain ⟨b, o, hA, _⟩ := hh.at_ (by rw [lineCells_length ls fvs hl]; omega)
  refine ⟨b, o, A', c', hA, hh.get hA h2, ?_, hH⟩
  have := hh.get hA h3
  rw [hfv] at this
  rw [Nat.add_assoc]
  exact this

set_option maxRecDepth 100000 in
set_option maxHeartbeats 2000000 in
theorem sameLines_c (A1 A2 : Option Addr) (c1 c2 : Nat) (s1 s2 : List LineD) (w : World) (h1 : LinesAt w (.slice A1 s1.length c1) s1) (h2 : LinesAt w (.slice A2 s2.length c2) s2) (hl1 : s1.length ≤ 1000000000) (hl2 : s2.length ≤ 1000000000)
    (hf1 : ∀ l ∈ s1, l.2.length ≤ 1000000000) (hf2 : ∀ l ∈ s2, l.2.length ≤ 1000000000) :
    Calls Tryd.prog 16 #[.slice A1 s1.length c1, .slice A2 s2.length c2] w fun e w' => e = .returned (.bool (decide (s1 = s2))) ∧ ∃ n, w' = w.drewN n := by
  by_cases hlen : s1.length = s2.length
  · have H1 := Lib.hid h1
    have H2 := Lib.hid h2
    have F1 := Lib.hid hf1
    have F2 := Lib.hid hf2
    clear h1 h2 hf1 hf2
    have hle : s1.length ≤ s2.length := by omega
    have hge : s2.length ≤ s1.length := by omega
    have hne : ((s1.length : Int) != (s2.length : Int)) = false := by rw [hlen]; simp
    have HLen := Lib.hid hlen
    clear hlen
    go_enter Tryd.func16, Tryd.ntmps16
    go_wp2
    go_loopw [5] (fun i wr => ∃ k : Nat, i = .int .i64 k ∧ k ≤ s1.length ∧ Hid (∃ n, wr = w.drewN n) ∧ Hid (s1.take k = s2.take k)) (fun i _ => s1.length - (intOf i).toNat)
    case atStart => exact ⟨0, rfl, Nat.zero_le _, Lib.hid ⟨0, rfl⟩, Lib.hid (by simp)⟩
    case round =>
      obtain ⟨k, rfl, hk, HW, HT⟩ := hrel
      by_cases hlt : k < s1.length
      · have hlt2 : k < s2.length := by omega
        have hw1 : LinesAt wr (.slice A1 s1.length c1) s1 := by obtain ⟨n, rfl⟩ := HW.out; exact H1.out.keep (below_drewN (Below.refl _ _) n)
        have hw2 : LinesAt wr (.slice A2 s2.length c2) s2 := by obtain ⟨n, rfl⟩ := HW.out; exact H2.out.keep (below_drewN (Below.refl _ _) n)
        obtain ⟨b1, o1, A1', c1', rfl, e1, e1', hh1⟩ := hw1.line hlt
        obtain ⟨b2, o2, A2', c2', rfl, e2, e2', hh2⟩ := hw2.line hlt2
        have CS := Lib.hid (fun n => sameStrings_c A1' A2' c1' c2' s1[k].2 s2[k].2 (wr.drewN n) (hh1.drewN n) (hh2.drewN n) (F1.out _ (List.getElem_mem hlt)) (F2.out _ (List.getElem_mem hlt2)))
        clear hh1 hh2 hw1 hw2 H1 H2 F1 F2
        by_cases he : s1[k].1 = s2[k].1
        · by_cases hf : s1[k].2 = s2[k].2
          · have HS := Lib.hid (show s1.take (k + 1) = s2.take (k + 1) by
              rw [List.take_succ_eq_append_getElem hlt, List.take_succ_eq_append_getElem hlt2, HT.out, show s1[k] = s2[k] from Prod.ext he hf])
            have hd : decide (s1[k].2 = s2[k].2) = true := by simpa using hf
            rw [hd] at CS
            have heq : (((s1[k].1 : Nat) : Int) != ((s2[k].1 : Nat) : Int)) = false := by rw [he]; simp
            have hE := Lib.hid he
            clear he hf hd HT
            generalize s1[k] = x at *
            generalize s2[k] = y at *
            go_wp2
            go_quiet ((go_at_call 22; exact (CS.out _).quiet_of))
            go_wp2
            go_roundw
            case rel => exact ⟨k + 1, by go_num, by omega, Lib.hid (by obtain ⟨n, hn⟩ := HW.out; exact ⟨_, by rw [hn, World.drewN_drewN]⟩), HS⟩
            case measure => simp [intOf]; omega
          · have HD : Hid (decide (s1 = s2) = false) := Lib.hid (by rw [decide_eq_false_iff_not]; exact ne_of_getElem hlt hlt2 fun e => hf (by rw [e]))
            have hd : decide (s1[k].2 = s2[k].2) = false := by simpa using hf
            rw [hd] at CS
            have heq : (((s1[k].1 : Nat) : Int) != ((s2[k].1 : Nat) : Int)) = false := by rw [he]; simp
            clear he hf hd HT
            generalize s1[k] = x at *
            generalize s2[k] = y at *
            go_wp2
            go_quiet ((go_at_call 22; exact (CS.out _).quiet_of))
            go_wp2
            go_ret
            exact ⟨ret_bool HD.out.symm, by obtain ⟨n, hn⟩ := HW.out; exact ⟨_, by rw [hn, World.drewN_drewN]⟩⟩
        · have HD : Hid (decide (s1 = s2) = false) := Lib.hid (by rw [decide_eq_false_iff_not]; exact ne_of_getElem hlt hlt2 fun e => he (by rw [e]))
          have heq : (((s1[k].1 : Nat) : Int) != ((s2[k].1 : Nat) : Int)) = true := by rw [bne_iff_ne]; omega
          clear he HT CS
          generalize s1[k] = x at *
          generalize s2[k] = y at *
          go_wp2
          go_quiet (fail)
          go_wp2
          go_ret
          exact ⟨ret_bool HD.out.symm, by obtain ⟨n, hn⟩ := HW.out; exact ⟨_, by rw [hn, World.drewN_drewN]⟩⟩
      · have HD : Hid (decide (s1 = s2) = true) := Lib.hid (by
          have ht := HT.out
          rw [List.take_of_length_le (by omega), List.take_of_length_le (by omega)] at ht
          rw [ht]; simp)
        clear H1 H2
        go_wp2
        go_ret
        exact ⟨ret_bool HD.out.symm, HW.out⟩
  · have HD : Hid (decide (s1 = s2) = false) := Lib.hid (by rw [decide_eq_false_iff_not]; rintro rfl; exact hlen rfl)
    have hne : ((s1.length : Int) != (s2.length : Int)) = true := by rw [bne_iff_ne]; omega
    clear h1 h2
    go_enter Tryd.func16, Tryd.ntmps16
    go_wp2
    go_ret
    exact ⟨ret_bool HD.out.symm, 0, rfl⟩
end Go.Proofs.YtpglhidhghhmoaaDoor
