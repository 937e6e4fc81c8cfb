/- FieldsFirst returns true: the first wrong byte of a text decides about its error, whatever follows its line. -/
import Derived.Test.YtngapogkhpnieaaDoorFdLawLines
namespace Go.Proofs.YtngapogkhpnieaaDoor
open Go.RowKit Fl
attribute [local go_sem] bget

theorem splitNL_append (t : List UInt8) : ∀ (s cur : List UInt8), splitNL cur (s ++ 10 :: t) = splitNL cur s ++ splitNL [] t
  | [], cur => by simp [splitNL]
  | c :: s, cur => by
    simp only [List.cons_append, splitNL]
    split
    · rw [splitNL_append t s []]; rfl
    · exact splitNL_append t s _
theorem linesA_append {e : Nat × Nat} (qs : List (List UInt8)) : ∀ (ps : List (List UInt8)) (n : Nat) (acc : List LineD), linesA n acc ps = .error e → linesA n acc (ps ++ qs) = .error e
  | [], n, acc, h => by cases h
  | p :: ps, n, acc, h => by
    rw [List.cons_append, linesA]
    rw [linesA] at h
    split at h
    · exact h
    · exact linesA_append qs ps _ _ h
theorem linesT_first {s t : List UInt8} {e : Nat × Nat} (h : linesT s = .error e) (hs : (s ++ 10 :: t).length ≤ 6000) : linesT (s ++ 10 :: t) = .error e := by
  unfold linesT at h ⊢
  have h1 : s.length ≤ 6000 := by simp at hs; omega
  rw [if_neg (by omega)] at h
  rw [if_neg (by omega), splitNL_append]
  exact linesA_append _ _ _ _ h
theorem bapp2 (a b : List UInt8) : (⟨a.toArray⟩ : ByteArray) ++ ⟨b.toArray⟩ = ⟨(a ++ b).toArray⟩ := by
  apply ByteArray.ext
  simp
theorem bapp10 (a : List UInt8) : (⟨a.toArray⟩ : ByteArray) ++ ⟨#[10]⟩ = ⟨(a ++ [10]).toArray⟩ := bapp2 a [10]
theorem linesT_errs {l : List UInt8} {n e : Nat} (h : linesT l = .error (n, e)) : 1 ≤ e ∧ e ≤ 3 := by
  have hA : ∀ (ps : List (List UInt8)) (n : Nat) (acc : List LineD) (m e : Nat), linesA n acc ps = .error (m, e) → 1 ≤ e ∧ e ≤ 3 := by
    intro ps
    induction ps with
    | nil => intro n acc m e h; cases h
    | cons p ps ih =>
      intro n acc m e h
      rw [linesA] at h
      split at h
      · rename_i er hs
        have := scanA_err _ _ _ _ hs
        injection h with h
        injection h with h1 h2
        omega
      · exact ih _ _ _ _ h
  unfold linesT at h
  split at h
  · injection h with h; injection h with h1 h2; omega
  · exact hA _ _ _ _ _ h

set_option maxRecDepth 100000 in
set_option maxHeartbeats 4000000 in
theorem fieldsFirst_c (A1 : Option Addr) (c1 : Nat) (z1 : List Int) (A2 : Option Addr) (c2 : Nat) (z2 : List Int) (m : Int) (w : World) (hz1 : IntsAt w w.heap.size A1 z1) (hl1 : z1.length ≤ maxLen) (hz2 : IntsAt w w.heap.size A2 z2) (hl2 : z2.length ≤ maxLen) (hm : w.cell? ⟨0, 0, none⟩ = some (.int .i64 m)) :
    Calls Tryd.prog 7 #[.slice A1 z1.length c1, .slice A2 z2.length c2] w fun e w' => e = .returned (.bool true) ∧ Below w.heap.size w w' := by
  have C := Lib.hid (known_c m w hm)
  have HM := Lib.hid hm
  have HZ1 := Lib.hid hz1
  have HL1 := Lib.hid hl1
  have HZ2 := Lib.hid hz2
  have HL2 := Lib.hid hl2
  clear hm hz1 hl1 hz2 hl2
  go_enter Tryd.func7, Tryd.ntmps7
  go_wp2_with fail
  refine C.out.mono ?_
  rintro e w1 ⟨rfl, hb1⟩
  go_wp2_with fail
  refine (text_c A1 c1 z1 w1 ((HZ1.out.keep (Nat.le_refl _) hb1).more hb1.size) HL1.out).mono ?_
  rintro e w2 ⟨s, hs, rfl, hb2⟩
  have hb12 := below_later hb1 hb2
  clear hb1 hb2
  have hap1 := bapp10 s
  have hm2 := Lib.hid (maxLen_kept HM.out hb12)
  rcases hR : linesT s with ⟨n, e⟩ | ls
  · have C1 := Lib.hid (lines_err s n e m w2 hm2.out (by unfold maxLen; omega) hR)
    have he := linesT_errs hR
    have HR := Lib.hid hR
    clear hR
    obtain ⟨he1, he2⟩ := he
    go_wp2_with fail
    refine C1.out.mono ?_
    rintro e w3 ⟨rfl, hb3⟩
    have hb13 := below_later hb12 hb3
    clear hb3
    go_wp2_with fail
    refine (text_c A2 c2 z2 w3 ((HZ2.out.keep (Nat.le_refl _) hb13).more hb13.size) HL2.out).mono ?_
    rintro e w4 ⟨t, ht, rfl, hb4⟩
    have hb14 := below_later hb13 hb4
    clear hb4
    have hap2 := bapp2 (s ++ [10]) t
    have hle : (s ++ [10] ++ t).length ≤ 401 := by simp; omega
    have C2 := Lib.hid (lines_err (s ++ [10] ++ t) n e m w4 (maxLen_kept HM.out hb14) (by unfold maxLen; omega) (by have := linesT_first (t := t) HR.out (by simp; omega); simpa using this))
    clear hap1 hle
    have hlen1 : (s ++ [10]).length ≤ 201 := by simp; omega
    generalize hx : s ++ [10] = x at *
    have HX := Lib.hid hx
    clear hx
    go_wp2_with fail
    refine C2.out.mono ?_
    rintro e w5 ⟨rfl, hb5⟩
    go_wp2_with fail
    go_ret
    exact ⟨rfl, below_later hb14 hb5⟩
  · have C1 := Lib.hid (lines_ok s ls m w2 hm2.out (by unfold maxLen; omega) hR)
    clear hR
    go_wp2_with fail
    refine C1.out.mono ?_
    rintro e w3 ⟨A, c, rfl, hb3, hl⟩
    clear hl
    have hb13 := below_later hb12 hb3
    clear hb3
    go_wp2_with fail
    refine (text_c A2 c2 z2 w3 ((HZ2.out.keep (Nat.le_refl _) hb13).more hb13.size) HL2.out).mono ?_
    rintro e w4 ⟨t, ht, rfl, hb4⟩
    have hb14 := below_later hb13 hb4
    clear hb4
    have hap2 := bapp2 (s ++ [10]) t
    have hle : (s ++ [10] ++ t).length ≤ 401 := by simp; omega
    have hm4 := Lib.hid (maxLen_kept HM.out hb14)
    have hlen1 : (s ++ [10]).length ≤ 201 := by simp; omega
    generalize hx : s ++ [10] = x at *
    clear hx
    rcases hR2 : linesT (x ++ t) with ⟨n, e⟩ | ls2
    · have C2 := Lib.hid (lines_err (x ++ t) n e m w4 hm4.out (by unfold maxLen; omega) hR2)
      clear hR2 hle
      go_wp2_with fail
      refine C2.out.mono ?_
      rintro e w5 ⟨rfl, hb5⟩
      go_wp2_with fail
      go_ret
      exact ⟨rfl, below_later hb14 hb5⟩
    · have C2 := Lib.hid (lines_ok (x ++ t) ls2 m w4 hm4.out (by unfold maxLen; omega) hR2)
      clear hR2 hle
      go_wp2_with fail
      refine C2.out.mono ?_
      rintro e w5 ⟨A', c', rfl, hb5, hl5⟩
      clear hl5
      go_wp2_with fail
      go_ret
      exact ⟨rfl, below_later hb14 hb5⟩
end Go.Proofs.YtngapogkhpnieaaDoor
