/- FieldsLines returns true: fields.Lines returns what the reference's Lines returns. -/
import Derived.Test.YtngapogkhpnieaaDoorFdKnown
import Derived.Test.YtngapogkhpnieaaDoorFdRefLines
import Derived.Test.YtngapogkhpnieaaDoorFdMake
namespace Go.Proofs.YtngapogkhpnieaaDoor
open Go.RowKit Fl
attribute [local go_sem] bget

theorem linesA_sizes {M : Nat} : ∀ (ps : List (List UInt8)) (n : Nat) (acc ls : List LineD), linesA n acc ps = .ok ls → (∀ x ∈ acc, x.2.length ≤ M) → (∀ p ∈ ps, p.length + 1 ≤ M) → ls.length ≤ acc.length + ps.length ∧ ∀ x ∈ ls, x.2.length ≤ M
  | [], n, acc, ls, h, ha, _ => by
    injection h with h; subst h
    exact ⟨by simp, ha⟩
  | p :: ps, n, acc, ls, h, ha, hp => by
    unfold linesA at h
    split at h
    · cases h
    · rename_i fs hs
      have hfs := scanA_count _ _ _ _ hs
      have hp0 := hp p (by simp)
      have h2 := linesA_sizes ps _ _ _ h (by
        intro x hx
        split at hx
        · exact ha x hx
        · rcases List.mem_append.1 hx with hx | hx
          · exact ha x hx
          · simp at hx; subst hx; simp at hfs ⊢; omega) (fun q hq => hp q (by simp [hq]))
      refine ⟨?_, h2.2⟩
      have h3 := h2.1
      split at h3
      · simp; omega
      · simp at h3 ⊢; omega
theorem linesT_sizes {l : List UInt8} {ls : List LineD} (h : linesT l = .ok ls) : ls.length ≤ 1000000000 ∧ ∀ x ∈ ls, x.2.length ≤ 1000000000 := by
  unfold linesT at h
  split at h
  · cases h
  · have h1 := splitNL_length_le l []
    have h2 := linesA_sizes (M := 1000000000) _ _ _ _ h (by simp) (fun p hp => by have := splitNL_piece l [] p hp; simp at this; omega)
    exact ⟨by simp at h2; omega, h2.2⟩
theorem refLines_ok (l : List UInt8) (ls : List LineD) (w : World) (hs : l.length ≤ maxLen) (h : linesT l = .ok ls) :
    Calls Tryd.prog 12 #[.string ⟨l.toArray⟩] w fun e w' => ∃ A c, e = .returned (.tuple #[.slice A ls.length c, .int .i64 0, .int .i64 0]) ∧ Below w.heap.size w w' ∧ LinesAt w' (.slice A ls.length c) ls :=
  (refLines_c l w hs).mono fun e w' hp => by
    unfold LinesPost at hp; rw [h] at hp
    obtain ⟨hb, v, he, hl⟩ := hp
    obtain ⟨A, c, fvs, rfl, hl'⟩ := hl
    exact ⟨A, c, he, hb, A, c, fvs, rfl, hl'⟩
theorem refLines_err (l : List UInt8) (n k : Nat) (w : World) (hs : l.length ≤ maxLen) (h : linesT l = .error (n, k)) :
    Calls Tryd.prog 12 #[.string ⟨l.toArray⟩] w fun e w' => e = .returned (.tuple #[.slice none 0 0, .int .i64 n, .int .i64 k]) ∧ Below w.heap.size w w' :=
  (refLines_c l w hs).mono fun e w' hp => by
    unfold LinesPost at hp; rw [h] at hp
    exact ⟨hp.2, hp.1⟩
theorem same_lines {w : World} (A1 A2 : Option Addr) (c1 c2 : Nat) (ls : List LineD) (h1 : LinesAt w (.slice A1 ls.length c1) ls) (h2 : LinesAt w (.slice A2 ls.length c2) ls) (hl : ls.length ≤ 1000000000 ∧ ∀ x ∈ ls, x.2.length ≤ 1000000000) :
    Calls Tryd.prog 13 #[.slice A1 ls.length c1, .slice A2 ls.length c2] w fun e w' => e = .returned (.bool true) ∧ ∃ n, w' = w.drewN n := by
  have h := sameLines_c A1 A2 c1 c2 ls ls w h1 h2 hl.1 hl.1 hl.2 hl.2
  rwa [show decide (ls = ls) = true from by simp] at h
theorem lines_nil (w : World) (A : Option Addr) (c : Nat) : LinesAt w (.slice A 0 c) [] := ⟨A, c, [], rfl, rfl, .nil, by simp⟩
theorem maxLen_kept {w w' : World} {m : Int} (hm : w.cell? ⟨0, 0, none⟩ = some (.int .i64 m)) (hb : Below w.heap.size w w') : w'.cell? ⟨0, 0, none⟩ = some (.int .i64 m) :=
  (hb.cell (World.block_lt_of_cell? _ _ hm)).trans hm

set_option maxRecDepth 100000 in
set_option maxHeartbeats 4000000 in
theorem fieldsLines_c (l : List UInt8) (A : Option Addr) (c : Nat) (zs : List Int) (m : Int) (w : World) (hs : l.length ≤ 140737488351232) (hz : IntsAt w w.heap.size A zs) (hzl : zs.length ≤ maxLen) (hm : w.cell? ⟨0, 0, none⟩ = some (.int .i64 m)) :
    Calls Tryd.prog 3 #[.string ⟨l.toArray⟩, .slice A zs.length c] w fun e w' => e = .returned (.bool true) ∧ Below w.heap.size w w' := by
  have C := Lib.hid (known_c m w hm)
  have HM := Lib.hid hm
  clear hm
  have HZ := Lib.hid hz
  have HL := Lib.hid hzl
  clear hz hzl
  go_enter Tryd.func3, Tryd.ntmps3
  go_wp2_with fail
  refine C.out.mono ?_
  rintro e w1 ⟨rfl, hb1⟩
  go_wp2_with fail
  refine (text_c A c zs w1 ((HZ.out.keep (Nat.le_refl _) hb1).more hb1.size) HL.out).mono ?_
  rintro e w2 ⟨t, ht, rfl, hb2⟩
  have hb12 := below_later hb1 hb2
  have HC : Hid (∀ k, k < 2 → ∃ x : List UInt8, x.length ≤ 140737488351232 ∧ (w2.alloc (.cells #[S l, S t] 9)).cell? ⟨w2.heap.size, k, none⟩ = some (S x)) := Lib.hid (fun k hk => by
    match k, hk with
    | 0, _ => exact ⟨l, hs, by simp [go_sem]⟩
    | 1, _ => exact ⟨t, by omega, by simp [go_sem]⟩)
  have hb3 : Below w.heap.size w (w2.alloc (.cells #[S l, S t] 9)) := hb12.alloc hb12.size _
  have hL : w2.heap.size < (w2.alloc (.cells #[S l, S t] 9)).heap.size := by simp
  clear hb1 hb2 hb12 hs ht
  go_wp2
  generalize hw3 : w2.alloc (Obj.cells #[Value.string { data := l.toArray }, Value.string { data := t.toArray }] 9) = w3 at *
  generalize w2.heap.size = L at *
  clear hw3
  go_loopw [6] (fun i wr => ∃ k : Nat, i = .int .i64 k ∧ k ≤ 2 ∧ Below w.heap.size w wr ∧ Below w3.heap.size w3 wr) (fun i _ => 2 - (intOf i).toNat)
  case atStart => exact ⟨0, rfl, by omega, hb3, Below.refl _ _⟩
  case round =>
    obtain ⟨k, rfl, hk, hbw, hb3w⟩ := hrel
    by_cases hk2 : k < 2
    · obtain ⟨x, hx, hc⟩ := HC.out k hk2
      have hcr : wr.cell? ⟨L, k, none⟩ = some (S x) := (hb3w.cell (p := ⟨L, k, none⟩) hL).trans hc
      clear hc
      have hmr := maxLen_kept HM.out hbw
      rcases hR : linesT x with ⟨n, e⟩ | ls
      · have C1 := Lib.hid (lines_err x n e m wr hmr (by unfold maxLen; omega) hR)
        have C2 := Lib.hid (fun w => refLines_err x n e w (by unfold maxLen; omega) hR)
        have C3 := Lib.hid (fun w => same_lines none none 0 0 [] (lines_nil w none 0) (lines_nil w none 0) ⟨by decide, by simp⟩)
        clear hR hmr
        go_wp2_with fail
        refine C1.out.mono ?_
        rintro e w4 ⟨rfl, hb4⟩
        have hcr4 : w4.cell? ⟨L, k, none⟩ = some (S x) := (hb4.cell (p := ⟨L, k, none⟩) (by have := hb3w.size; show L < _; omega)).trans hcr
        clear hcr
        go_wp2_with fail
        refine (C2.out _).mono ?_
        rintro e w5 ⟨rfl, hb5⟩
        go_wp2_with fail
        refine (C3.out _).mono ?_
        rintro e w6 ⟨rfl, q, rfl⟩
        go_wp2_with fail
        go_roundw
        case rel => exact ⟨k + 1, by go_num, by omega, below_drewN ((hbw.trans (hb4.mono hbw.size)).trans (hb5.mono (Nat.le_trans hbw.size hb4.size))) q, below_drewN (below_later (below_later hb3w hb4) hb5) q⟩
        case measure => simp [intOf]; omega
      · have C1 := Lib.hid (lines_ok x ls m wr hmr (by unfold maxLen; omega) hR)
        have C2 := Lib.hid (fun w => refLines_ok x ls w (by unfold maxLen; omega) hR)
        have HS := Lib.hid (linesT_sizes hR)
        clear hR hmr
        go_wp2_with fail
        refine C1.out.mono ?_
        rintro e w4 ⟨A4, c4, rfl, hb4, hl4⟩
        have HL4 := Lib.hid hl4
        clear hl4
        have hcr4 : w4.cell? ⟨L, k, none⟩ = some (S x) := (hb4.cell (p := ⟨L, k, none⟩) (by have := hb3w.size; show L < _; omega)).trans hcr
        clear hcr
        go_wp2_with fail
        refine (C2.out _).mono ?_
        rintro e w5 ⟨A5, c5, rfl, hb5, hl5⟩
        have C3 := Lib.hid (same_lines A4 A5 c4 c5 ls (HL4.out.keep hb5) hl5 HS.out)
        clear hl5
        go_wp2_with fail
        refine C3.out.mono ?_
        rintro e w6 ⟨rfl, q, rfl⟩
        go_wp2_with fail
        go_roundw
        case rel => exact ⟨k + 1, by go_num, by omega, below_drewN ((hbw.trans (hb4.mono hbw.size)).trans (hb5.mono (Nat.le_trans hbw.size hb4.size))) q, below_drewN (below_later (below_later hb3w hb4) hb5) q⟩
        case measure => simp [intOf]; omega
    · go_wp2
      go_ret
      exact ⟨rfl, hbw⟩
end Go.Proofs.YtngapogkhpnieaaDoor
