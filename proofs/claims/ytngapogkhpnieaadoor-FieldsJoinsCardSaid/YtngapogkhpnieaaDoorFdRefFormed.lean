/- Contract of the reference's Formed. -/
import Derived.Test.YtngapogkhpnieaaDoorFdValid
import Derived.Test.YtngapogkhpnieaaDoorFdRefFields
import Derived.BigQuiet
namespace Go.Proofs.YtngapogkhpnieaaDoor
open Go.RowKit Fl
attribute [local go_sem] bget

theorem RawAt.num {w : World} {b o : Nat} {ls : List LineI} (h : RawAt w (some ⟨b, o, none⟩) ls) {k : Nat} (hk : k < ls.length) : w.cell? ⟨b, o + k * 2, none⟩ = some (.int .i64 ls[k].1) := by
  obtain ⟨b', o', _, _, hA, e, _⟩ := h.line hk
  injection hA with hA
  injection hA with hb ho
  subst hb ho
  exact e

set_option maxRecDepth 100000 in
set_option maxHeartbeats 8000000 in
theorem refFormed_c (A : Option Addr) (c : Nat) (ls : List LineI) (w : World) (h : RawAt w A ls) (hl : ls.length ≤ 8796093021952) (hf : ∀ x ∈ ls, x.2.length ≤ 8796093021952) (hs : ∀ x ∈ ls, ∀ f ∈ x.2, f.length ≤ maxLen) (hn : ∀ x ∈ ls, -9223372036854775808 ≤ x.1 ∧ x.1 ≤ 9223372036854775807) :
    Calls Tryd.prog 39 #[.slice A ls.length c] w fun e w' => e = .returned (.bool (formed 0 ls)) ∧ ∃ n, w' = w.drewN n := by
  have H := Lib.hid h
  have HF := Lib.hid hf
  have HS := Lib.hid hs
  have HNN := Lib.hid hn
  clear h hf hs hn
  go_enter Tryd.func39, Tryd.ntmps39
  go_wp2
  go_loopw [3] (fun i wr => ∃ (k : Nat) (last : Int), i = .int .i64 k ∧ k ≤ ls.length ∧ 0 ≤ last ∧ (k = 0 ∧ last = 0 ∨ ∃ h : k - 1 < ls.length, 0 < k ∧ last = ls[k - 1].1) ∧ Hid (∃ n, wr = w.drewN n) ∧ Hid (formed 0 ls = formed last (ls.drop k))) (fun i _ => ls.length - (intOf i).toNat)
  case atStart => exact ⟨0, 0, rfl, Nat.zero_le _, by omega, .inl ⟨rfl, rfl⟩, Lib.hid ⟨0, rfl⟩, Lib.hid rfl⟩
  case round =>
    obtain ⟨k, last, rfl, hk, hla, hlast, HW, HR⟩ := hrel
    by_cases hlt : k < ls.length
    · have hraw : RawAt wr A ls := H.out.keep (by obtain ⟨n, rfl⟩ := HW.out; exact below_drewN (Below.refl _ _) n)
      obtain ⟨b, o, A', c', rfl, e1, e2, hcap, hh⟩ := hraw.line hlt
      have hprev : k = 0 ∧ last = 0 ∨ 0 < k ∧ wr.cell? ⟨b, o + (k - 1) * 2, none⟩ = some (.int .i64 last) := by
        rcases hlast with h | ⟨h1, h2, h3⟩
        · exact .inl h
        · refine .inr ⟨h2, ?_⟩
          rw [h3]; exact hraw.num h1
      have HH := Lib.hid hh
      clear hh hraw hlast
      have hfl := HF.out _ (List.getElem_mem hlt)
      have hnn := HNN.out _ (List.getElem_mem hlt)
      have hss := Lib.hid (HS.out _ (List.getElem_mem hlt))
      have HD := Lib.hid (HR.out.trans (formed_drop hlt))
      clear HR
      obtain ⟨hn1, hn2⟩ := hnn
      by_cases hlow : ls[k].1 < 1
      · have HX : Hid (formed 0 ls = false) := Lib.hid (by rw [HD.out, decide_eq_false (by omega)]; rfl)
        clear HD hss HH hprev
        generalize ls[k] = x at *
        go_wp2
        go_quiet (fail)
        go_wp2
        go_ret
        exact ⟨ret_bool HX.out.symm, by obtain ⟨n, hn⟩ := HW.out; exact ⟨_, by rw [hn, World.drewN_drewN]⟩⟩
      · have hd1 : decide (ls[k].1 < 1) = false := decide_eq_false hlow
        by_cases hgt : last < ls[k].1
        · have hprev2 : k < 1 ∧ decide (0 < k) = false ∨ 0 < k ∧ wr.cell? ⟨b, o + (k - 1) * 2, none⟩ = some (.int .i64 last) ∧ decide (ls[k].1 ≤ last) = false := by
            rcases hprev with ⟨h1, h2⟩ | ⟨h1, h2⟩
            · exact .inl ⟨by omega, decide_eq_false (by omega)⟩
            · exact .inr ⟨by omega, h2, decide_eq_false (by omega)⟩
          clear hprev
          rcases hprev2 with ⟨hk0, hd2⟩ | ⟨hk0, e0, hd2⟩
          all_goals
            by_cases hne : ls[k].2 = []
            · have HX : Hid (formed 0 ls = false) := Lib.hid (by rw [HD.out, hne]; simp)
              have hlen0 : ls[k].2.length = 0 := by rw [hne]; rfl
              clear hne HD hss HH
              generalize ls[k] = x at *
              go_wp2
              go_quiet (fail)
              go_wp2
              go_ret
              exact ⟨ret_bool HX.out.symm, by obtain ⟨n, hn⟩ := HW.out; exact ⟨_, by rw [hn, World.drewN_drewN]⟩⟩
            · have hpos : 0 < ls[k].2.length := List.length_pos_iff.2 hne
              have HD2 : Hid (formed 0 ls = (ls[k].2.all fieldOk && formed ls[k].1 (ls.drop (k + 1)))) := Lib.hid (by rw [HD.out, decide_eq_true hgt, decide_eq_true hne]; simp)
              have hn0 : 0 ≤ ls[k].1 := by omega
              clear HD hne
              have HXX := Lib.hid (show ∃ h : k < ls.length, ls[k] = ls[k] from ⟨hlt, rfl⟩)
              generalize hx : ls[k] = x at *
              obtain ⟨n, fs⟩ := x
              dsimp only at *
              have HX1 := Lib.hid hx
              clear hx HXX
              have hlen0 : ((fs.length : Int) == 0) = false := by rw [beq_eq_false_iff_ne]; omega
              go_wp2
              go_quiet (fail)
              go_wp2
              have WQ : Hid (∃ q, wr.drewN nq = w.drewN q) := Lib.hid (by obtain ⟨q, hq⟩ := HW.out; exact ⟨_, by rw [hq, World.drewN_drewN]⟩)
              have HH2 := Lib.hid (HH.out.drewN nq)
              clear HH HW
              go_loop [4] (fun i => ∃ j : Nat, i = .int .i64 j ∧ j ≤ fs.length ∧ Hid ((fs.take j).all fieldOk = true)) (fun i => fs.length - (intOf i).toNat)
              case atStart => exact ⟨0, rfl, Nat.zero_le _, Lib.hid (by simp)⟩
              case round =>
                obtain ⟨j, rfl, hj, HT⟩ := hrel
                by_cases hjl : j < fs.length
                · obtain ⟨b2, o2, rfl, _, hc2⟩ := HH2.out.at_ (by simp; omega)
                  have e3 := hc2 j (by simpa using hjl)
                  simp only [List.getElem_map] at e3
                  clear hc2
                  have hsj := hss.out _ (List.getElem_mem hjl)
                  have HBAD : Hid (fieldOk fs[j] = false → formed 0 ls = false) := Lib.hid (fun hv => by
                    rw [HD2.out]
                    have : fs.all fieldOk = false := by rw [List.all_eq_false]; exact ⟨_, List.getElem_mem hjl, by simp [hv]⟩
                    rw [this]; rfl)
                  have HGOOD : Hid (fieldOk fs[j] = true → (fs.take (j + 1)).all fieldOk = true) := Lib.hid (fun hv => by
                    rw [List.take_succ_eq_append_getElem hjl, List.all_append, HT.out]; simp [hv])
                  clear HT
                  generalize fs[j] = y at *
                  unfold maxLen at hsj
                  by_cases h1 : 1 ≤ y.length
                  · have q1 : y ≠ [] := by intro e; subst e; simp at h1
                    have q2 : y.isEmpty = false := by simpa using q1
                    by_cases h2 : y.length ≤ 12
                    · go_wp2
                      go_loop [6] (fun i => ∃ m : Nat, m ≤ y.length ∧ i = .int .i64 m ∧ (y.take m).all fieldByte = true) (fun i => y.length - (intOf i).toNat)
                      case atStart => exact ⟨0, Nat.zero_le _, rfl, by simp⟩
                      case round =>
                        obtain ⟨m, hm, rfl, ha⟩ := hrel
                        by_cases hmt : m < y.length
                        · have HA := Lib.hid ha
                          clear ha
                          by_cases hfb : fieldByte y[m] = true
                          · have HS1 := Lib.hid (all_snoc hmt HA.out hfb)
                            go_wp2_with (go_at_call 44; refine (blockwayref01_allowed_c _ _).mono ?_; rintro e w' ⟨rfl, rfl⟩)
                            go_round
                            case rel => exact ⟨m + 1, by omega, by go_num, HS1.out⟩
                            case measure => simp [intOf]; omega
                          · have hf' : fieldByte y[m] = false := by simpa using hfb
                            have HB := Lib.hid (HBAD.out (fieldOk_bad hmt hf'))
                            clear hfb
                            go_wp2_with (go_at_call 44; refine (blockwayref01_allowed_c _ _).mono ?_; rintro e w' ⟨rfl, rfl⟩)
                            go_ret
                            exact ⟨ret_bool HB.out.symm, WQ.out⟩
                        · obtain rfl : m = y.length := by omega
                          have HG := Lib.hid (HGOOD.out (fieldOk_good ⟨h1, h2⟩ (by simpa using ha)))
                          clear ha
                          go_wp2
                          go_round
                          case rel => exact ⟨j + 1, by go_num, by omega, HG⟩
                          case measure => simp [intOf]; omega
                    · have HB := Lib.hid (HBAD.out (fieldOk_size (by omega)))
                      go_wp2
                      go_ret
                      exact ⟨ret_bool HB.out.symm, WQ.out⟩
                  · obtain rfl : y = [] := List.eq_nil_of_length_eq_zero (by omega)
                    have HB := Lib.hid (HBAD.out rfl)
                    go_wp2
                    go_ret
                    exact ⟨ret_bool HB.out.symm, WQ.out⟩
                · have HN : Hid (formed 0 ls = formed n (ls.drop (k + 1))) := Lib.hid (by
                    have ht := HT.out
                    rw [List.take_of_length_le (by omega)] at ht
                    rw [HD2.out, ht]; rfl)
                  go_wp2
                  go_roundw
                  case rel => exact ⟨k + 1, n, by go_num, by omega, hn0, .inr ⟨by simpa using hlt, by omega, by simp [HX1.out]⟩, WQ, HN⟩
                  case measure => simp [intOf]; omega
        · rcases hprev with ⟨hk0, hl0⟩ | ⟨hk0, e0⟩
          · omega
          · have HX : Hid (formed 0 ls = false) := Lib.hid (by rw [HD.out, decide_eq_false hgt]; rfl)
            have hk1 : (0 : Int) < (k : Int) := by omega
            have hle : ls[k].1 ≤ last := by omega
            clear HD hss HH hgt
            generalize ls[k] = x at *
            go_wp2
            go_quiet (fail)
            go_wp2
            go_ret
            exact ⟨ret_bool HX.out.symm, by obtain ⟨n, hn⟩ := HW.out; exact ⟨_, by rw [hn, World.drewN_drewN]⟩⟩
    · have HX : Hid (formed 0 ls = true) := Lib.hid (by rw [HR.out, List.drop_of_length_le (by omega)]; rfl)
      go_wp2
      go_ret
      exact ⟨ret_bool HX.out.symm, HW.out⟩
end Go.Proofs.YtngapogkhpnieaaDoor
