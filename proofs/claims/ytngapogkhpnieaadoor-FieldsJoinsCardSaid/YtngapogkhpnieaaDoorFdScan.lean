/- Contract of fields.scan: it returns the fields of a line, or the error of its first byte that has one. -/
import Derived.Test.YtngapogkhpnieaaDoorFdSmall
import Derived.Test.YtngapogkhpnieaaDoorShelf
import Derived.Test.YtngapogkhpnieaaDoorScope
import Derived.Outline
namespace Go.Proofs.YtngapogkhpnieaaDoor
open Go.RowKit Fl
attribute [local go_sem] bget jumpTo_normal jumpTo_exit jumpTo_ret jumpTo_panic passOn_normal passOn_exit passOn_ret passOn_panic

abbrev S (l : List UInt8) : Value := .string ⟨l.toArray⟩
def ScanPost (w : World) (R : Except Nat (List (List UInt8))) (e : Ending) (w' : World) : Prop :=
  Below w.heap.size w w' ∧ match R with
    | .ok fs => ∃ v, e = .returned (.tuple #[v, .int .i64 0]) ∧ w'.ownsRow w.heap.size 9 1 v fs.length (fs.map S)
    | .error n => e = .returned (.tuple #[.slice none 0 0, .int .i64 n])
theorem bext (l : List UInt8) (a b : Nat) : (⟨l.toArray⟩ : ByteArray).extract a b = ⟨(seg l a b).toArray⟩ := by
  apply ByteArray.ext
  rw [ByteArray.data_extract]
  simp [seg, List.extract_eq_take_drop, List.drop_take]

attribute [local go_sem] bext
set_option maxRecDepth 100000 in
theorem clone_c (l : List UInt8) (w : World) (hs : l.length ≤ 100000) : Calls Tryd.prog 43 #[.string ⟨l.toArray⟩] w fun e w' => e = .returned (S l) ∧ Below w.heap.size w w' := by
  have C := Lib.hid (Tryd.stringslite_Clone ⟨l.toArray⟩ w (by show l.length ≤ _; omega))
  go_enter Tryd.func43, Tryd.ntmps43
  go_wp2_with (go_at_call 54; refine (C.out).mono ?_; rintro e w1 ⟨rfl, hb⟩)
  go_ret
  exact ⟨rfl, hb⟩
theorem Tryd.infoString : (Tryd.prog.info? 9).map (fun i => (i.zero, i.size, i.bytes)) = some (some (.string ByteArray.empty), 1, 16) := by kernel_rfl

set_option maxRecDepth 100000 in
set_option maxHeartbeats 4000000 in
theorem scan_c (l : List UInt8) (w : World) (hs : l.length ≤ 6000) : Calls Tryd.prog 25 #[.string ⟨l.toArray⟩] w (ScanPost w (scanA [] [] l)) := by
  go_enter Tryd.func25, Tryd.ntmps25
  go_wp2
  refine wp_scope_on 1 2 (by rfl) (by rfl) ?_
  go_wp2
  go_loopw [4, 5] (fun v i wr => ∃ (k : Nat) (acc : List (List UInt8)), i = .int .i64 k ∧ k ≤ l.length ∧ acc.length ≤ k ∧ wr.ownsRow w.heap.size 9 1 v acc.length (acc.map S) ∧ Below w.heap.size w wr ∧ Hid (scanA [] [] l = scanA [] acc (l.drop k))) (fun _ i _ => l.length - (intOf i).toNat)
  case atStart => exact ⟨0, [], rfl, Nat.zero_le _, by simp, ⟨by simp, .inl ⟨rfl, rfl⟩⟩, Below.refl _ _, Lib.hid rfl⟩
  case round =>
    obtain ⟨k0, acc, rfl, hk0, hacc, hown, hb, HS⟩ := hrel
    go_wp2
    refine wp_scope_on 0 1 (by rfl) (by rfl) ?_
    go_wp2
    obtain ⟨wo, rfl⟩ : ∃ wo : World, wo = wr := ⟨_, rfl⟩
    go_loop [5] (fun i => ∃ k : Nat, i = .int .i64 k ∧ k0 ≤ k ∧ k ≤ l.length ∧ k ≤ k0 + 12 ∧ Hid (scanA [] [] l = scanA (seg l k0 k) acc (l.drop k))) (fun i => l.length - (intOf i).toNat)
    case atStart => exact ⟨k0, rfl, Nat.le_refl _, hk0, by omega, Lib.hid (by rw [seg_nil]; exact HS.out)⟩
    case round =>
      obtain ⟨k, rfl, hk1, hk2, hk3, HR⟩ := hrel
      by_cases hlt : k < l.length
      · by_cases hf : fieldByte l[k] = true
        · by_cases h12 : k = k0 + 12
          · have h12' : (((k : Int) - (k0 : Int)) == 12) = true := by rw [beq_iff_eq]; omega
            have HL := Lib.hid (HR.out.trans (scanA_long hlt hf (by rw [seg_length (by omega)]; omega)))
            clear h12
            go_wp2_with (go_at_call 42; refine (fields_isFieldByte_c _ _).mono ?_; rintro e w' ⟨rfl, rfl⟩)
            show bodyPost Tryd.prog Tryd.f25 (ScanPost w (scanA [] [] l)) Exit.ret _ _
            go_ret2
            exact ⟨hb, by rw [HL.out]; rfl⟩
          · have h12' : (((k : Int) - (k0 : Int)) == 12) = false := by rw [beq_eq_false_iff_ne]; omega
            have HL := Lib.hid (HR.out.trans (scanA_step hlt hf (by rw [seg_length (by omega)]; omega)))
            have hk4 : k < k0 + 12 := by omega
            clear h12
            go_wp2_with (go_at_call 42; refine (fields_isFieldByte_c _ _).mono ?_; rintro e w' ⟨rfl, rfl⟩)
            go_round
            case rel => exact ⟨k + 1, by go_num, by omega, by omega, by omega, Lib.hid (by rw [seg_snoc hlt hk1]; exact HL.out)⟩
            case measure => simp [intOf]; omega
        · have hf' : fieldByte l[k] = false := by simpa using hf
          clear hf
          go_wp2_with (go_at_call 42; refine (fields_isFieldByte_c _ _).mono ?_; rintro e w' ⟨rfl, rfl⟩)
          go_step3
          refine Or.inl ⟨rfl, ?_⟩
          by_cases hgt : k0 < k
          · go_wp2_with fail
            refine (clone_c _ _ (by rw [seg_length hk2]; omega)).mono ?_
            rintro e w1 ⟨rfl, hb1⟩
            have own1 := ownsRow_below hown hb1
            have base1 := own_base own1
            clear hown
            obtain ⟨i0, hi, hz0, hz1, hz2⟩ := info_parts Tryd.infoString
            go_wp2_with (at_builtin; refine wpList_append_own _ rfl _ _ 25 rfl w.heap.size 9 i0 (.string ByteArray.empty) 1 16 Tryd.underlying25 hi hz0 hz1 hz2 rfl (by decide) _ _ _ rfl (own1.alloc _) ⟨w1.heap.size, 0, none⟩ 1 1 [S (seg l k0 k)] rfl rfl ?c1 ?c2 ?c3 ?c4 ?c5 ?_)
            case c1 =>
              intro j u hu
              rcases j with _ | j
              · simp at hu; subst hu; simp [go_sem]
              · simp at hu
            case c2 => intro u hu; simp at hu; subst hu; rfl
            case c3 => unfold maxLen; omega
            case c4 => omega
            case c5 => have := hb.size; have := hb1.size; simp; omega
            intro v' w2 own2 hg2 _
            have hb2 : Below w.heap.size w w2 := ((hb.trans (hb1.mono hb.size)).alloc (Nat.le_trans hb.size hb1.size) _).grown hg2 (by have := hb.size; have := hb1.size; simp; omega) base1
            have HF : Hid (flush (seg l k0 k) acc = acc ++ [seg l k0 k]) := Lib.hid (flush_seg hk2 hgt acc)
            replace own2 : w2.ownsRow w.heap.size 9 1 v' (acc ++ [seg l k0 k]).length ((acc ++ [seg l k0 k]).map S) := by simpa using own2
            have hacc2 : (acc ++ [seg l k0 k]).length ≤ k := by simp; omega
            clear hg2 hb1 own1 base1 hi hz0 hz1 hz2 hb hacc
            by_cases h35 : l[k].toNat = 35
            · have e35 : ((l[k].toNat : Int) == 35) = true := by rw [h35]; rfl
              have HL := Lib.hid (HR.out.trans ((scanA_hash hlt h35).trans (congrArg Except.ok HF.out)))
              clear h35
              go_wp2
              go_step3
              first
                | refine Or.inr ⟨rfl, Or.inl ⟨rfl, ?_⟩⟩
                | refine ⟨rfl, Or.inl ⟨rfl, ?_⟩⟩
              go_wp2
              show bodyPost Tryd.prog Tryd.f25 (ScanPost w (scanA [] [] l)) Exit.ret _ _
              go_ret2
              exact ⟨hb2, by rw [HL.out]; exact ⟨_, rfl, own2⟩⟩
            · have e35 : ((l[k].toNat : Int) == 35) = false := by rw [beq_eq_false_iff_ne]; omega
              by_cases hbl : l[k].toNat = 32 ∨ l[k].toNat = 9
              · have HL := Lib.hid (HR.out.trans (by rw [scanA_blank hlt hbl, HF.out]))
                have ebl : ((l[k].toNat : Int) != 32) = false ∨ ((l[k].toNat : Int) != 32) = true ∧ ((l[k].toNat : Int) != 9) = false := by
                  rcases hbl with h | h
                  · left; rw [h]; rfl
                  · right; rw [h]; exact ⟨rfl, rfl⟩
                clear hbl
                rcases ebl with ebl | ⟨ebl, ebl2⟩
                all_goals
                  go_wp2
                  change _ ∧ _
                  go_roundw
                  case rel => exact ⟨k + 1, _, by go_num, by omega, by omega, own2, hb2, HL⟩
                  case measure => simp [intOf]; omega
              · have e32 : ((l[k].toNat : Int) != 32) = true := by rw [bne_iff_ne]; omega
                have e9 : ((l[k].toNat : Int) != 9) = true := by rw [bne_iff_ne]; omega
                have HL := Lib.hid (HR.out.trans (scanA_byte hlt hf' h35 (by omega) (by omega)))
                clear hbl h35
                go_wp2
                show bodyPost Tryd.prog Tryd.f25 (ScanPost w (scanA [] [] l)) Exit.ret _ _
                go_ret2
                exact ⟨hb2, by rw [HL.out]; rfl⟩
          · have own2 := hown
            have hb2 := hb
            have HF : Hid (flush (seg l k0 k) acc = acc) := Lib.hid (by rw [show k = k0 by omega, seg_nil]; rfl)
            have hacc2 : acc.length ≤ k := by omega
            clear hown hb hacc
            by_cases h35 : l[k].toNat = 35
            · have e35 : ((l[k].toNat : Int) == 35) = true := by rw [h35]; rfl
              have HL := Lib.hid (HR.out.trans ((scanA_hash hlt h35).trans (congrArg Except.ok HF.out)))
              clear h35
              go_wp2
              go_step3
              first
                | refine Or.inr ⟨rfl, Or.inl ⟨rfl, ?_⟩⟩
                | refine ⟨rfl, Or.inl ⟨rfl, ?_⟩⟩
              go_wp2
              show bodyPost Tryd.prog Tryd.f25 (ScanPost w (scanA [] [] l)) Exit.ret _ _
              go_ret2
              exact ⟨hb2, by rw [HL.out]; exact ⟨_, rfl, own2⟩⟩
            · have e35 : ((l[k].toNat : Int) == 35) = false := by rw [beq_eq_false_iff_ne]; omega
              by_cases hbl : l[k].toNat = 32 ∨ l[k].toNat = 9
              · have HL := Lib.hid (HR.out.trans (by rw [scanA_blank hlt hbl, HF.out]))
                have ebl : ((l[k].toNat : Int) != 32) = false ∨ ((l[k].toNat : Int) != 32) = true ∧ ((l[k].toNat : Int) != 9) = false := by
                  rcases hbl with h | h
                  · left; rw [h]; rfl
                  · right; rw [h]; exact ⟨rfl, rfl⟩
                clear hbl
                rcases ebl with ebl | ⟨ebl, ebl2⟩
                all_goals
                  go_wp2
                  change _ ∧ _
                  go_roundw
                  case rel => exact ⟨k + 1, _, by go_num, by omega, by omega, own2, hb2, HL⟩
                  case measure => simp [intOf]; omega
              · have e32 : ((l[k].toNat : Int) != 32) = true := by rw [bne_iff_ne]; omega
                have e9 : ((l[k].toNat : Int) != 9) = true := by rw [bne_iff_ne]; omega
                have HL := Lib.hid (HR.out.trans (scanA_byte hlt hf' h35 (by omega) (by omega)))
                clear hbl h35
                go_wp2
                show bodyPost Tryd.prog Tryd.f25 (ScanPost w (scanA [] [] l)) Exit.ret _ _
                go_ret2
                exact ⟨hb2, by rw [HL.out]; rfl⟩
      · go_wp2_with (go_at_call 42; refine (fields_isFieldByte_c _ _).mono ?_; rintro e w' ⟨rfl, rfl⟩)
        go_step3
        by_cases hgt : k0 < k
        · go_wp2_with fail
          refine (clone_c _ _ (by rw [seg_length hk2]; omega)).mono ?_
          rintro e w1 ⟨rfl, hb1⟩
          have own1 := ownsRow_below hown hb1
          have base1 := own_base own1
          clear hown
          obtain ⟨i0, hi, hz0, hz1, hz2⟩ := info_parts Tryd.infoString
          go_wp2_with (at_builtin; refine wpList_append_own _ rfl _ _ 25 rfl w.heap.size 9 i0 (.string ByteArray.empty) 1 16 Tryd.underlying25 hi hz0 hz1 hz2 rfl (by decide) _ _ _ rfl (own1.alloc _) ⟨w1.heap.size, 0, none⟩ 1 1 [S (seg l k0 k)] rfl rfl ?c1 ?c2 ?c3 ?c4 ?c5 ?_)
          case c1 =>
            intro j u hu
            rcases j with _ | j
            · simp at hu; subst hu; simp [go_sem]
            · simp at hu
          case c2 => intro u hu; simp at hu; subst hu; rfl
          case c3 => unfold maxLen; omega
          case c4 => omega
          case c5 => have := hb.size; have := hb1.size; simp; omega
          intro v' w2 own2 hg2 _
          have hb2 : Below w.heap.size w w2 := ((hb.trans (hb1.mono hb.size)).alloc (Nat.le_trans hb.size hb1.size) _).grown hg2 (by have := hb.size; have := hb1.size; simp; omega) base1
          have HF : Hid (flush (seg l k0 k) acc = acc ++ [seg l k0 k]) := Lib.hid (flush_seg hk2 hgt acc)
          replace own2 : w2.ownsRow w.heap.size 9 1 v' (acc ++ [seg l k0 k]).length ((acc ++ [seg l k0 k]).map S) := by simpa using own2
          have hacc2 : (acc ++ [seg l k0 k]).length ≤ k := by simp; omega
          clear hg2 hb1 own1 base1 hi hz0 hz1 hz2 hb hacc
          have HL := Lib.hid (HR.out.trans ((scanA_end (by omega)).trans (congrArg Except.ok HF.out)))
          go_wp2
          go_step3
          first
            | refine Or.inr ⟨rfl, Or.inl ⟨rfl, ?_⟩⟩
            | refine ⟨rfl, Or.inl ⟨rfl, ?_⟩⟩
          go_wp2
          show bodyPost Tryd.prog Tryd.f25 (ScanPost w (scanA [] [] l)) Exit.ret _ _
          go_ret2
          exact ⟨hb2, by rw [HL.out]; exact ⟨_, rfl, own2⟩⟩
        · have own2 := hown
          have hb2 := hb
          have HF : Hid (flush (seg l k0 k) acc = acc) := Lib.hid (by rw [show k = k0 by omega, seg_nil]; rfl)
          have hacc2 : acc.length ≤ k := by omega
          clear hown hb hacc
          have HL := Lib.hid (HR.out.trans ((scanA_end (by omega)).trans (congrArg Except.ok HF.out)))
          go_wp2
          go_step3
          first
            | refine Or.inr ⟨rfl, Or.inl ⟨rfl, ?_⟩⟩
            | refine ⟨rfl, Or.inl ⟨rfl, ?_⟩⟩
          go_wp2
          show bodyPost Tryd.prog Tryd.f25 (ScanPost w (scanA [] [] l)) Exit.ret _ _
          go_ret2
          exact ⟨hb2, by rw [HL.out]; exact ⟨_, rfl, own2⟩⟩
end Go.Proofs.YtngapogkhpnieaaDoor
