/- Contracts of fields.validField and fields.validLines. -/
import Derived.Test.YtngapogkhpnieaaDoorFdJoinSpec
import Derived.Test.YtngapogkhpnieaaDoorFdSame
import Derived.Test.YtngapogkhpnieaaDoorFdSameL
import Derived.Test.YtngapogkhpnieaaDoorFdName
namespace Go.Proofs.YtngapogkhpnieaaDoor
open Go.RowKit Fl
attribute [local go_sem] bget

set_option maxHeartbeats 1000000 in
theorem validField_c (l : List UInt8) (w : World) (hs : l.length ≤ maxLen) : Calls Tryd.prog 46 #[.string ⟨l.toArray⟩] w fun e w' => e = .returned (.bool (fieldOk l)) ∧ w = w' := by
  unfold maxLen at hs
  by_cases h1 : 1 ≤ l.length
  · have e1 : l ≠ [] := by intro e; subst e; simp at h1
    have e2 : l.isEmpty = false := by simpa using e1
    by_cases h2 : l.length ≤ 12
    · go_enter Tryd.func46, Tryd.ntmps46
      go_wp2
      go_loop [13] (fun i => ∃ k : Nat, k ≤ l.length ∧ i = .int .i64 k ∧ (l.take k).all fieldByte = true) (fun i => l.length - (intOf i).toNat)
      case atStart => exact ⟨0, Nat.zero_le _, rfl, by simp⟩
      case round =>
        obtain ⟨k, hk, rfl, ha⟩ := hrel
        by_cases hlt : k < l.length
        · have HA := Lib.hid ha
          clear ha
          by_cases hf : fieldByte l[k] = true
          · have HS := Lib.hid (all_snoc hlt HA.out hf)
            go_wp2_with (go_at_call 42; refine (fields_isFieldByte_c _ _).mono ?_; rintro e w' ⟨rfl, rfl⟩)
            go_round
            case rel => exact ⟨k + 1, by omega, by go_num, HS.out⟩
            case measure => simp [intOf]; omega
          · have hf' : fieldByte l[k] = false := by simpa using hf
            have HB := Lib.hid (fieldOk_bad hlt hf')
            clear hf
            go_wp2_with (go_at_call 42; refine (fields_isFieldByte_c _ _).mono ?_; rintro e w' ⟨rfl, rfl⟩)
            go_ret
            exact ⟨ret_bool HB.out.symm, rfl⟩
        · obtain rfl : k = l.length := by omega
          have HG := Lib.hid (fieldOk_good ⟨h1, h2⟩ (by simpa using ha))
          clear ha
          go_wp2
          go_ret
          exact ⟨ret_bool HG.out.symm, rfl⟩
    · have HB := Lib.hid (fieldOk_size (l := l) (by omega))
      go_enter Tryd.func46, Tryd.ntmps46
      go_wp2
      go_ret
      exact ⟨ret_bool HB.out.symm, rfl⟩
  · obtain rfl : l = [] := List.eq_nil_of_length_eq_zero (by omega)
    go_enter Tryd.func46, Tryd.ntmps46
    go_wp2
    go_ret
    exact ⟨ret_bool rfl, rfl⟩

/-- From address A on, the cells hold the lines ls: each a number and a slice of its fields. -/
def RawAt (w : World) (A : Option Addr) (ls : List LineI) : Prop := ls = [] ∨ ∃ b o, A = some ⟨b, o, none⟩ ∧ b < w.heap.size ∧
  ∀ k (h : k < ls.length), ∃ A' c', w.cell? ⟨b, o + k * 2, none⟩ = some (.int .i64 ls[k].1) ∧ w.cell? ⟨b, o + k * 2 + 1, none⟩ = some (.slice A' ls[k].2.length c') ∧ ls[k].2.length ≤ c' ∧ Holds w A' (ls[k].2.map S)
theorem RawAt.keep {w w' : World} {A : Option Addr} {ls : List LineI} (h : RawAt w A ls) (hb : Below w.heap.size w w') : RawAt w' A ls := by
  rcases h with h | ⟨b, o, hA, hlt, hc⟩
  · exact .inl h
  · refine .inr ⟨b, o, hA, Nat.lt_of_lt_of_le hlt hb.size, fun k hk => ?_⟩
    obtain ⟨A', c', h1, h2, h3, h4⟩ := hc k hk
    exact ⟨A', c', (hb.cell (p := ⟨b, o + k * 2, none⟩) hlt).trans h1, (hb.cell (p := ⟨b, o + k * 2 + 1, none⟩) hlt).trans h2, h3, h4.keep hb⟩
theorem RawAt.line {w : World} {A : Option Addr} {ls : List LineI} (h : RawAt w A ls) {k : Nat} (hk : k < ls.length) :
    ∃ b o A' c', A = some ⟨b, o, none⟩ ∧ w.cell? ⟨b, o + k * 2, none⟩ = some (.int .i64 ls[k].1) ∧ w.cell? ⟨b, o + k * 2 + 1, none⟩ = some (.slice A' ls[k].2.length c') ∧ ls[k].2.length ≤ c' ∧ Holds w A' (ls[k].2.map S) := by
  rcases h with rfl | ⟨b, o, hA, _, hc⟩
  · simp at hk
  · obtain ⟨A', c', h1, h2, h3, h4⟩ := hc k hk
    exact ⟨b, o, A', c', hA, h1, h2, h3, h4⟩

set_option maxRecDepth 100000 in
set_option maxHeartbeats 4000000 in
theorem validLines_c (A : Option Addr) (c : Nat) (ls : List LineI) (w : World) (h : RawAt w A ls) (hl : ls.length ≤ 8796093021952) (hf : ∀ x ∈ ls, x.2.length ≤ 8796093021952) (hs : ∀ x ∈ ls, ∀ f ∈ x.2, f.length ≤ maxLen) (hn : ∀ x ∈ ls, -9223372036854775808 ≤ x.1 ∧ x.1 ≤ 9223372036854775807) :
    Calls Tryd.prog 32 #[.slice A ls.length c] w fun e w' => e = .returned (.bool (formed 0 ls)) ∧ Below w.heap.size w w' := by
  have H := Lib.hid h
  have HF := Lib.hid hf
  have HS := Lib.hid hs
  have HNN := Lib.hid hn
  clear h hf hs hn
  go_enter Tryd.func32, Tryd.ntmps32
  go_wp2
  go_loopw [3, 10] (fun la i wr => ∃ (k : Nat) (last : Int), i = .int .i64 k ∧ la = .int .i64 last ∧ k ≤ ls.length ∧ -9223372036854775808 ≤ last ∧ last ≤ 9223372036854775807 ∧ Below w.heap.size w wr ∧ Hid (formed 0 ls = formed last (ls.drop k))) (fun _ i _ => ls.length - (intOf i).toNat)
  case atStart => exact ⟨0, 0, rfl, rfl, Nat.zero_le _, by omega, by omega, Below.refl _ _, Lib.hid rfl⟩
  case round =>
    obtain ⟨k, last, rfl, rfl, hk, hla1, hla2, hb, HR⟩ := hrel
    by_cases hlt : k < ls.length
    · obtain ⟨b, o, A', c', rfl, e1, e2, hcap, hh⟩ := (H.out.keep hb).line hlt
      have HH := Lib.hid hh
      clear hh
      have hfl := HF.out _ (List.getElem_mem hlt)
      have hnn := HNN.out _ (List.getElem_mem hlt)
      have hss := Lib.hid (HS.out _ (List.getElem_mem hlt))
      have HD := Lib.hid (HR.out.trans (formed_drop hlt))
      clear HR
      obtain ⟨hn1, hn2⟩ := hnn
      by_cases hgt : last < ls[k].1
      · by_cases hne : ls[k].2 = []
        · have HX : Hid (formed 0 ls = false) := Lib.hid (by rw [HD.out, hne]; simp)
          have hlen0 : ls[k].2.length = 0 := by rw [hne]; rfl
          clear hne HD hss HH
          generalize ls[k] = x at *
          go_wp2
          go_ret
          exact ⟨ret_bool HX.out.symm, hb.alloc hb.size _⟩
        · have hpos : 0 < ls[k].2.length := List.length_pos_iff.2 hne
          have HD2 : Hid (formed 0 ls = (ls[k].2.all fieldOk && formed ls[k].1 (ls.drop (k + 1)))) := Lib.hid (by rw [HD.out, decide_eq_true hgt, decide_eq_true hne]; simp)
          clear HD hne
          generalize hx : ls[k] = x at *
          have HXX := Lib.hid hx
          clear hx
          obtain ⟨n, fs⟩ := x
          dsimp only at *
          have hlen0 : ((fs.length : Int) == 0) = false := by rw [beq_eq_false_iff_ne]; omega
          have hb2 : Below w.heap.size w (wr.alloc (.cells #[.int .i64 n, .slice A' fs.length c'] 50)) := hb.alloc hb.size _
          have HH2 := Lib.hid (HH.out.keep (w' := wr.alloc (.cells #[.int .i64 n, .slice A' fs.length c'] 50)) ((Below.refl _ _).alloc (Nat.le_refl _) _))
          go_wp2
          obtain ⟨wo, rfl⟩ : ∃ wo : World, wo = wr := ⟨_, rfl⟩
          go_loop [27] (fun i => ∃ j : Nat, i = .int .i64 j ∧ j ≤ fs.length ∧ Hid ((fs.take j).all fieldOk = true)) (fun i => fs.length - (intOf i).toNat)
          case atStart => exact ⟨0, rfl, Nat.zero_le _, Lib.hid (by simp)⟩
          case round =>
            obtain ⟨j, rfl, hj, HT⟩ := hrel
            by_cases hjl : j < fs.length
            · obtain ⟨b2, o2, rfl, _, hc2⟩ := HH2.out.at_ (by simp; omega)
              have e3 := hc2 j (by simpa using hjl)
              simp only [List.getElem_map] at e3
              clear hc2
              have hsj := hss.out _ (List.getElem_mem hjl)
              have V := Lib.hid (fun w => validField_c fs[j] w hsj)
              rcases hv : fieldOk fs[j] with _ | _
              · have HX : Hid (formed 0 ls = false) := Lib.hid (by
                  rw [HD2.out]
                  have : fs.all fieldOk = false := by rw [List.all_eq_false]; exact ⟨_, List.getElem_mem hjl, by simp [hv]⟩
                  rw [this]; rfl)
                rw [hv] at V
                clear hv hsj
                generalize fs[j] = y at *
                go_wp2_with fail
                refine (V.out _).mono ?_
                rintro e w4 ⟨rfl, rfl⟩
                go_wp2_with fail
                go_ret
                exact ⟨ret_bool HX.out.symm, hb2⟩
              · have HT2 : Hid ((fs.take (j + 1)).all fieldOk = true) := Lib.hid (by
                  rw [List.take_succ_eq_append_getElem hjl, List.all_append, HT.out]; simp [hv])
                rw [hv] at V
                clear hv hsj
                generalize fs[j] = y at *
                go_wp2_with fail
                refine (V.out _).mono ?_
                rintro e w4 ⟨rfl, rfl⟩
                go_wp2_with fail
                go_round
                case rel => exact ⟨j + 1, by go_num, by omega, HT2⟩
                case measure => simp [intOf]; omega
            · have HN : Hid (formed 0 ls = formed n (ls.drop (k + 1))) := Lib.hid (by
                have ht := HT.out
                rw [List.take_of_length_le (by omega)] at ht
                rw [HD2.out, ht]; rfl)
              go_wp2
              go_roundw
              case rel => exact ⟨k + 1, n, by go_num, rfl, by omega, hn1, hn2, hb2, HN⟩
              case measure => simp [intOf]; omega
      · have HX : Hid (formed 0 ls = false) := Lib.hid (by rw [HD.out, decide_eq_false hgt]; rfl)
        have hle : ls[k].1 ≤ last := by omega
        clear hgt HD hss HH
        generalize ls[k] = x at *
        go_wp2
        go_ret
        exact ⟨ret_bool HX.out.symm, hb.alloc hb.size _⟩
    · have HX : Hid (formed 0 ls = true) := Lib.hid (by rw [HR.out, List.drop_of_length_le (by omega)]; rfl)
      go_wp2
      go_ret
      exact ⟨ret_bool HX.out.symm, hb⟩
end Go.Proofs.YtngapogkhpnieaaDoor
