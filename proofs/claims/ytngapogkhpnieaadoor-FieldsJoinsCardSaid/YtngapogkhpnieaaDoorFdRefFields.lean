/- Contract of the reference's fields of a line: it returns what fields.scan returns. -/
import Derived.Test.YtngapogkhpnieaaDoorFdScan
namespace Go.Proofs.YtngapogkhpnieaaDoor
open Go.RowKit Fl
attribute [local go_sem] bget bext

set_option maxRecDepth 100000 in
set_option maxHeartbeats 4000000 in
theorem refFields_c (l : List UInt8) (w : World) (hs : l.length ≤ 6000) : Calls Tryd.prog 26 #[.string ⟨l.toArray⟩] w (ScanPost w (scanA [] [] l)) := by
  go_enter Tryd.func26, Tryd.ntmps26
  go_wp2
  go_loopw [4, 5, 6] (fun v fr i wr => ∃ (k : Nat) (acc : List (List UInt8)), i = .int .i64 k ∧ k ≤ l.length ∧ acc.length ≤ k ∧ wr.ownsRow w.heap.size 9 1 v acc.length (acc.map S) ∧ Below w.heap.size w wr ∧
    ((fr = .int .i64 (-1) ∧ Hid (scanA [] [] l = scanA [] acc (l.drop k))) ∨ (∃ f : Nat, fr = .int .i64 f ∧ f < k ∧ k ≤ f + 12 ∧ acc.length ≤ f ∧ Hid (scanA [] [] l = scanA (seg l f k) acc (l.drop k))))) (fun _ _ i _ => l.length + 1 - (intOf i).toNat)
  case atStart => exact ⟨0, [], rfl, Nat.zero_le _, by simp, ⟨by simp, .inl ⟨rfl, rfl⟩⟩, Below.refl _ _, .inl ⟨rfl, Lib.hid rfl⟩⟩
  case round =>
    obtain ⟨k, acc, rfl, hk, hacc, hown, hb, hfr⟩ := hrel
    rcases hfr with ⟨rfl, HR⟩ | ⟨f, rfl, hfk, hf12, haf, HR⟩
    · by_cases hlt : k < l.length
      · have hkl : ((k : Int) == (l.length : Int)) = false := by rw [beq_eq_false_iff_ne]; omega
        by_cases h35 : l[k].toNat = 35
        · have e35 : ((l[k].toNat : Int) == 35) = true := by rw [h35]; rfl
          have HL := Lib.hid (HR.out.trans (scanA_hash hlt h35))
          clear h35
          go_wp2
          go_ret2
          exact ⟨hb, by rw [HL.out]; exact ⟨_, rfl, hown⟩⟩
        · have e35 : ((l[k].toNat : Int) == 35) = false := by rw [beq_eq_false_iff_ne]; omega
          by_cases hbl : l[k].toNat = 32 ∨ l[k].toNat = 9
          · have ebl : ((l[k].toNat : Int) != 32) = false ∨ ((l[k].toNat : Int) != 32) = true ∧ ((l[k].toNat : Int) != 9) = false := by
              rcases hbl with h | h
              · left; rw [h]; rfl
              · right; rw [h]; exact ⟨rfl, rfl⟩
            have HL := Lib.hid (HR.out.trans (by rw [scanA_blank hlt hbl, flush_nil]))
            clear hbl
            rcases ebl with ebl | ⟨ebl, ebl2⟩
            all_goals
              go_wp2
              go_roundw
              case rel => exact ⟨k + 1, _, by go_num, by omega, by omega, hown, hb, .inl ⟨rfl, HL⟩⟩
              case measure => simp [intOf]; omega
          · have e32 : ((l[k].toNat : Int) != 32) = true := by rw [bne_iff_ne]; omega
            have e9 : ((l[k].toNat : Int) != 9) = true := by rw [bne_iff_ne]; omega
            by_cases hf : fieldByte l[k] = true
            · have HL := Lib.hid (HR.out.trans (scanA_step hlt hf (by simp)))
              clear hbl h35
              go_wp2_with (go_at_call 44; refine (blockwayref01_allowed_c _ _).mono ?_; rintro e w' ⟨rfl, rfl⟩)
              go_roundw
              case rel => exact ⟨k + 1, acc, by go_num, by omega, by omega, hown, hb, .inr ⟨k, rfl, by omega, by omega, hacc, Lib.hid (by rw [seg_snoc hlt (Nat.le_refl k), seg_nil]; exact HL.out)⟩⟩
              case measure => simp [intOf]; omega
            · have hf' : fieldByte l[k] = false := by simpa using hf
              have HL := Lib.hid (HR.out.trans (scanA_byte hlt hf' h35 (by omega) (by omega)))
              clear hf hbl h35
              go_wp2_with (go_at_call 44; refine (blockwayref01_allowed_c _ _).mono ?_; rintro e w' ⟨rfl, rfl⟩)
              go_ret2
              exact ⟨hb, by rw [HL.out]; rfl⟩
      · have hkl : k = l.length := by omega
        have HL := Lib.hid (HR.out.trans (scanA_end (by omega)))
        clear hlt
        subst hkl
        go_wp2
        go_ret2
        exact ⟨hb, by rw [HL.out]; exact ⟨_, rfl, hown⟩⟩
    · have hfk2 : f ≤ k := by omega
      by_cases hlt : k < l.length
      · have hkl : ((k : Int) == (l.length : Int)) = false := by rw [beq_eq_false_iff_ne]; omega
        by_cases h35 : l[k].toNat = 35
        · have e35 : ((l[k].toNat : Int) == 35) = true := by rw [h35]; rfl
          have HL := Lib.hid (HR.out.trans ((scanA_hash hlt h35).trans (congrArg Except.ok (flush_seg hk hfk acc))))
          clear h35
          obtain ⟨i0, hi, hz0, hz1, hz2⟩ := info_parts Tryd.infoString
          have base1 := own_base hown
          go_wp2_with (at_builtin; refine wpList_append_own _ rfl _ _ 25 rfl w.heap.size 9 i0 (.string ByteArray.empty) 1 16 Tryd.underlying25 hi hz0 hz1 hz2 rfl (by decide) _ _ _ rfl (hown.alloc _) ⟨wr.heap.size, 0, none⟩ 1 1 [S (seg l f k)] rfl rfl ?c1 ?c2 ?c3 ?c4 ?c5 ?_)
          case c1 =>
            intro j u hu
            rcases j with _ | j
            · simp at hu; subst hu; simp [go_sem]
            · simp at hu
          case c2 => intro u hu; simp at hu; subst hu; rfl
          case c3 => unfold maxLen; omega
          case c4 => omega
          case c5 => have := hb.size; simp; omega
          intro v' w2 own2 hg2 _
          have hb2 : Below w.heap.size w w2 := (hb.alloc hb.size _).grown hg2 (by have := hb.size; simp; omega) base1
          have HF : Hid (flush (seg l f k) acc = acc ++ [seg l f k]) := Lib.hid (flush_seg hk hfk acc)
          replace own2 : w2.ownsRow w.heap.size 9 1 v' (acc ++ [seg l f k]).length ((acc ++ [seg l f k]).map S) := by simpa using own2
          have hacc2 : (acc ++ [seg l f k]).length ≤ k := by simp; omega
          clear hg2 base1 hi hz0 hz1 hz2 hb hacc hown
          clear HF
          go_wp2
          go_ret2
          exact ⟨hb2, by rw [HL.out]; exact ⟨_, rfl, own2⟩⟩
        · have e35 : ((l[k].toNat : Int) == 35) = false := by rw [beq_eq_false_iff_ne]; omega
          by_cases hbl : l[k].toNat = 32 ∨ l[k].toNat = 9
          · have ebl : ((l[k].toNat : Int) != 32) = false ∨ ((l[k].toNat : Int) != 32) = true ∧ ((l[k].toNat : Int) != 9) = false := by
              rcases hbl with h | h
              · left; rw [h]; rfl
              · right; rw [h]; exact ⟨rfl, rfl⟩
            have HL := Lib.hid (HR.out.trans (by rw [scanA_blank hlt hbl, flush_seg hk hfk acc]))
            clear hbl
            rcases ebl with ebl | ⟨ebl, ebl2⟩
            all_goals
              obtain ⟨i0, hi, hz0, hz1, hz2⟩ := info_parts Tryd.infoString
              have base1 := own_base hown
              go_wp2_with (at_builtin; refine wpList_append_own _ rfl _ _ 25 rfl w.heap.size 9 i0 (.string ByteArray.empty) 1 16 Tryd.underlying25 hi hz0 hz1 hz2 rfl (by decide) _ _ _ rfl (hown.alloc _) ⟨wr.heap.size, 0, none⟩ 1 1 [S (seg l f k)] rfl rfl ?c1 ?c2 ?c3 ?c4 ?c5 ?_)
              case c1 =>
                intro j u hu
                rcases j with _ | j
                · simp at hu; subst hu; simp [go_sem]
                · simp at hu
              case c2 => intro u hu; simp at hu; subst hu; rfl
              case c3 => unfold maxLen; omega
              case c4 => omega
              case c5 => have := hb.size; simp; omega
              intro v' w2 own2 hg2 _
              have hb2 : Below w.heap.size w w2 := (hb.alloc hb.size _).grown hg2 (by have := hb.size; simp; omega) base1
              have HF : Hid (flush (seg l f k) acc = acc ++ [seg l f k]) := Lib.hid (flush_seg hk hfk acc)
              replace own2 : w2.ownsRow w.heap.size 9 1 v' (acc ++ [seg l f k]).length ((acc ++ [seg l f k]).map S) := by simpa using own2
              have hacc2 : (acc ++ [seg l f k]).length ≤ k := by simp; omega
              clear hg2 base1 hi hz0 hz1 hz2 hb hacc hown
              clear HF
              go_wp2
              go_roundw
              case rel => exact ⟨k + 1, _, by go_num, by omega, by simp at hacc2 ⊢; omega, own2, hb2, .inl ⟨rfl, HL⟩⟩
              case measure => simp [intOf]; omega
          · have e32 : ((l[k].toNat : Int) != 32) = true := by rw [bne_iff_ne]; omega
            have e9 : ((l[k].toNat : Int) != 9) = true := by rw [bne_iff_ne]; omega
            by_cases hf : fieldByte l[k] = true
            · by_cases h12 : k = f + 12
              · have h12' : (12 : Int) ≤ (k : Int) - (f : Int) := by omega
                have HL := Lib.hid (HR.out.trans (scanA_long hlt hf (by rw [seg_length (by omega)]; omega)))
                clear h12 hbl h35
                go_wp2_with (go_at_call 44; refine (blockwayref01_allowed_c _ _).mono ?_; rintro e w' ⟨rfl, rfl⟩)
                go_ret2
                exact ⟨hb, by rw [HL.out]; rfl⟩
              · have h12' : (k : Int) - (f : Int) < 12 := by omega
                have HL := Lib.hid (HR.out.trans (scanA_step hlt hf (by rw [seg_length (by omega)]; omega)))
                have hk12 : k + 1 ≤ f + 12 := by omega
                clear h12 hbl h35
                go_wp2_with (go_at_call 44; refine (blockwayref01_allowed_c _ _).mono ?_; rintro e w' ⟨rfl, rfl⟩)
                go_roundw
                case rel => exact ⟨k + 1, acc, by go_num, by omega, by omega, hown, hb, .inr ⟨f, rfl, by omega, hk12, haf, Lib.hid (by rw [seg_snoc hlt (by omega)]; exact HL.out)⟩⟩
                case measure => simp [intOf]; omega
            · have hf' : fieldByte l[k] = false := by simpa using hf
              have HL := Lib.hid (HR.out.trans (scanA_byte hlt hf' h35 (by omega) (by omega)))
              clear hf hbl h35
              go_wp2_with (go_at_call 44; refine (blockwayref01_allowed_c _ _).mono ?_; rintro e w' ⟨rfl, rfl⟩)
              go_ret2
              exact ⟨hb, by rw [HL.out]; rfl⟩
      · have hkl : k = l.length := by omega
        have HL := Lib.hid (HR.out.trans ((scanA_end (by omega)).trans (congrArg Except.ok (flush_seg hk hfk acc))))
        clear hlt
        subst hkl
        obtain ⟨i0, hi, hz0, hz1, hz2⟩ := info_parts Tryd.infoString
        have base1 := own_base hown
        go_wp2_with (at_builtin; refine wpList_append_own _ rfl _ _ 25 rfl w.heap.size 9 i0 (.string ByteArray.empty) 1 16 Tryd.underlying25 hi hz0 hz1 hz2 rfl (by decide) _ _ _ rfl (hown.alloc _) ⟨wr.heap.size, 0, none⟩ 1 1 [S (seg l f l.length)] rfl rfl ?c1 ?c2 ?c3 ?c4 ?c5 ?_)
        case c1 =>
          intro j u hu
          rcases j with _ | j
          · simp at hu; subst hu; simp [go_sem]
          · simp at hu
        case c2 => intro u hu; simp at hu; subst hu; rfl
        case c3 => unfold maxLen; omega
        case c4 => omega
        case c5 => have := hb.size; simp; omega
        intro v' w2 own2 hg2 _
        have hb2 : Below w.heap.size w w2 := (hb.alloc hb.size _).grown hg2 (by have := hb.size; simp; omega) base1
        have HF : Hid (flush (seg l f l.length) acc = acc ++ [seg l f l.length]) := Lib.hid (flush_seg hk hfk acc)
        replace own2 : w2.ownsRow w.heap.size 9 1 v' (acc ++ [seg l f l.length]).length ((acc ++ [seg l f l.length]).map S) := by simpa using own2
        have hacc2 : (acc ++ [seg l f l.length]).length ≤ l.length := by simp; omega
        clear hg2 base1 hi hz0 hz1 hz2 hb hacc hown
        clear HF
        go_wp2
        go_ret2
        exact ⟨hb2, by rw [HL.out]; exact ⟨_, rfl, own2⟩⟩
end Go.Proofs.YtngapogkhpnieaaDoor
