/- Joined texts. -/
import Derived.Test.YtgjnhefmheefbaaDoorFdSmall
import Derived.Test.YtgjnhefmheefbaaDoorMjA
import Derived.Test.YtgjnhefmheefbaaDoorMjB
import Derived.Test.YtgjnhefmheefbaaDoorFdDigits
import Derived.Test.YtgjnhefmheefbaaDoorTape
import Derived.Lib.BufferRead
import Derived.Deep.DeepCutAuto
import Derived.Deep.RegionWith
import Derived.Test.YtgjnhefmheefbaaDoorFdName
namespace Go.Proofs.YtgjnhefmheefbaaDoor
open Go.RowKit Fl
attribute [local go_sem] bget

/-- A byte as a cell. -/
abbrev Bv (c : UInt8) : Value := .int .u8 (c.toNat : Int)
theorem ownsRow_but {w w' : World} {base g : Nat} {e : TypeId} {size n : Nat} {v : Value} {xs : List Value} (h : w.ownsRow base e size v n xs) (hg : w.grownBy w' (some g)) (hlt : g < base) : w'.ownsRow base e size v n xs := by
  obtain ⟨h1, hr⟩ := h
  refine ⟨h1, ?_⟩
  rcases hr with hr | ⟨b, cap, cur, hv, hgb, hh, hrest⟩
  · exact .inl hr
  · exact .inr ⟨b, cap, cur, hv, hgb, (hg.block b (block_lt hh) (fun e => by injection e with e; omega)).trans hh, hrest⟩
set_option maxRecDepth 100000 in
/-- string(b), b a row of the call's own. -/
theorem conv_own {W : World} {base : Nat} {v : Value} {bs : List UInt8} (h : W.ownsRow base 5 1 v bs.length (bs.map Bv)) :
    Sem.run Tryd.prog (convert 82 9 v) W = .ok (.string ⟨bs.toArray⟩) W := by
  obtain ⟨A, c, rfl⟩ := own_slice h
  have hh := ownsRow_holds h
  rcases hh with hn | ⟨b, o, rfl, _, hc⟩
  · have hb : bs = [] := by simpa using hn
    subst hb
    rcases h.2 with ⟨hv, _⟩ | ⟨g, cap, cur, hv, _⟩
    · injection hv with hA _ hcc
      subst hA
      exact Lib.run_convert_nil_bytes W _ _ 5 _ Tryd.underlying82 Tryd.underlying5 Tryd.underlying9
    · injection hv with hA _ hcc
      subst hA
      exact run_convert_bytes_back (P := Tryd.prog) W 82 9 5 ⟨g, 0, none⟩ c [] Tryd.underlying82 Tryd.underlying5 Tryd.underlying9 (fun j hj => by simp at hj)
  · refine run_convert_bytes_back (P := Tryd.prog) W 82 9 5 ⟨b, o, none⟩ c bs Tryd.underlying82 Tryd.underlying5 Tryd.underlying9 (fun j hj => ?_)
    have e1 := hc j (by simpa using hj)
    have e2 : (⟨b, o, none⟩ : Addr).add j = ⟨b, o + j, none⟩ := by unfold Addr.add; split <;> simp_all
    rw [e2, e1]; simp
theorem Tryd.infoByte : (Tryd.prog.info? 5).map (fun i => (i.zero, i.size, i.bytes)) = some (some (.int .u8 0), 1, 1) := by kernel_rfl
/-- The list of numbers that an argument holds. -/
def IntsAt (w : World) (B : Nat) (A : Option Addr) (zs : List Int) : Prop :=
  0 < zs.length → ∃ b o, A = some ⟨b, o, none⟩ ∧ b < B ∧ ∀ j (h : j < zs.length), w.cell? ⟨b, o + j, none⟩ = some (.int .i64 zs[j]) ∧ -9223372036854775808 ≤ zs[j] ∧ zs[j] ≤ 9223372036854775807
theorem tape_new {w w1 : World} {B : Nat} {A : Option Addr} {c : Nat} {zs : List Int} (h : IntsAt w B A zs) (hB : B ≤ w.heap.size) (hb : Below w.heap.size w w1) (hl : zs.length ≤ maxLen) :
    TapeOk (w1.alloc (.cells #[.slice A zs.length c, .int .i64 0] 35)) B w1.heap.size 0 := by
  refine ⟨A, zs.length, c, 0, zs, heap_alloc_new w1 _, rfl, Nat.le_refl _, by have := hb.size; omega, hl, fun hn => ?_⟩
  obtain ⟨b, o, hA, hlt, hc⟩ := h hn
  refine ⟨b, o, hA, hlt, fun j hj => ⟨?_, (hc j hj).2⟩⟩
  have hbb : Below w.heap.size w (w1.alloc (.cells #[.slice A zs.length c, .int .i64 0] 35)) := hb.alloc hb.size _
  rw [hbb.cell (p := ⟨b, o + j, none⟩) (by show b < _; omega)]
  exact (hc j hj).1
theorem IntsAt.keep {w w' : World} {B : Nat} {A : Option Addr} {zs : List Int} (h : IntsAt w B A zs) (hB : B ≤ w.heap.size) (hb : Below w.heap.size w w') : IntsAt w' B A zs := fun hn => by
  obtain ⟨b, o, hA, hlt, hc⟩ := h hn
  exact ⟨b, o, hA, hlt, fun j hj => ⟨(hb.cell (p := ⟨b, o + j, none⟩) (by show b < _; omega)).trans (hc j hj).1, (hc j hj).2⟩⟩
theorem IntsAt.more {w : World} {B B' : Nat} {A : Option Addr} {zs : List Int} (h : IntsAt w B A zs) (hB : B ≤ B') : IntsAt w B' A zs := fun hn => by
  obtain ⟨b, o, hA, hlt, hc⟩ := h hn
  exact ⟨b, o, hA, by omega, hc⟩

abbrev tSigns : List UInt8 := [97, 98, 48, 45, 57, 95, 35, 32, 32, 9, 10, 10, 126, 33]
end Go.Proofs.YtgjnhefmheefbaaDoor
namespace Go.Proofs.YtgjnhefmheefbaaDoor
open Go.RowKit Fl
attribute [local go_sem] bget

theorem take_snoc_eq {a b : List (List UInt8)} {k : Nat} (h : k < a.length) (h2 : k < b.length) (ht : a.take k = b.take k) (he : a[k] = b[k]) : a.take (k + 1) = b.take (k + 1) := by
  rw [List.take_succ_eq_append_getElem h, List.take_succ_eq_append_getElem h2, ht, he]
theorem ne_of_getElem {α : Type} {a b : List α} {k : Nat} (h : k < a.length) (h2 : k < b.length) (he : a[k] ≠ b[k]) : a ≠ b := by
  rintro rfl; exact he rfl

set_option maxRecDepth 100000 in
set_option maxHeartbeats 1000000 in
theorem sameStrings_c (A1 A2 : Option Addr) (c1 c2 : Nat) (s1 s2 : List (List UInt8)) (w : World) (h1 : Holds w A1 (s1.map S)) (h2 : Holds w A2 (s2.map S)) (hl1 : s1.length ≤ 1000000000) (hl2 : s2.length ≤ 1000000000) :
    Calls Tryd.prog 22 #[.slice A1 s1.length c1, .slice A2 s2.length c2] w fun e w' => e = .returned (.bool (decide (s1 = s2))) ∧ ∃ n, w' = w.drewN n := by
  by_cases hlen : s1.length = s2.length
  · have H1 := Lib.hid h1
    have H2 := Lib.hid h2
    clear h1 h2
    have hle : s1.length ≤ s2.length := by omega
    have hge : s2.length ≤ s1.length := by omega
    have hne : ((s1.length : Int) != (s2.length : Int)) = false := by rw [hlen]; simp
    have HLen := Lib.hid hlen
    clear hlen
    go_enter Tryd.func22, Tryd.ntmps22
    go_wp2
    go_loopw [5] (fun i wr => ∃ k n : Nat, i = .int .i64 k ∧ k ≤ s1.length ∧ wr = w.drewN n ∧ Hid (s1.take k = s2.take k)) (fun i _ => s1.length - (intOf i).toNat)
    case atStart => exact ⟨0, 0, rfl, Nat.zero_le _, rfl, Lib.hid (by simp)⟩
    case round =>
      obtain ⟨k, n, rfl, hk, rfl, HT⟩ := hrel
      by_cases hlt : k < s1.length
      · obtain ⟨b1, o1, rfl, _, hc1⟩ := H1.out.at_ (by simp; omega)
        obtain ⟨b2, o2, rfl, _, hc2⟩ := H2.out.at_ (by simp; omega)
        have hlt2 : k < s2.length := by omega
        have e1 : w.cell? ⟨b1, o1 + k, none⟩ = some (S s1[k]) := by rw [hc1 k (by simpa using hlt)]; simp
        have e2 : w.cell? ⟨b2, o2 + k, none⟩ = some (S s2[k]) := by rw [hc2 k (by simpa using hlt2)]; simp
        clear hc1 hc2 H1 H2
        by_cases he : s1[k] = s2[k]
        · have HS := Lib.hid (take_snoc_eq hlt hlt2 HT.out he)
          have heq : (s1[k] == s2[k]) = true := by rw [he]; simp
          have hneq : (s1[k] != s2[k]) = false := by rw [he]; simp
          clear he HT
          generalize s1[k] = x at *
          generalize s2[k] = y at *
          go_wp2
          go_quiet (fail)
          go_wp2
          go_roundw
          case rel => exact ⟨k + 1, _, by go_num, by omega, rfl, HS⟩
          case measure => simp [intOf]; omega
        · have HD : Hid (decide (s1 = s2) = false) := Lib.hid (by rw [decide_eq_false_iff_not]; exact ne_of_getElem hlt hlt2 he)
          have heq : (s1[k] == s2[k]) = false := by rw [beq_eq_false_iff_ne]; exact he
          have hneq : (s1[k] != s2[k]) = true := by rw [bne_iff_ne]; exact he
          clear he HT
          generalize s1[k] = x at *
          generalize s2[k] = y at *
          go_wp2
          go_quiet (fail)
          go_wp2
          go_ret
          exact ⟨ret_bool HD.out.symm, _, World.drewN_drewN _ _ _⟩
      · have HD : Hid (decide (s1 = s2) = true) := Lib.hid (by
          have ht := HT.out
          rw [List.take_of_length_le (by omega), List.take_of_length_le (by omega)] at ht
          rw [ht]; simp)
        clear H1 H2
        go_wp2
        go_ret
        exact ⟨ret_bool HD.out.symm, n, rfl⟩
  · have HD : Hid (decide (s1 = s2) = false) := Lib.hid (by rw [decide_eq_false_iff_not]; rintro rfl; exact hlen rfl)
    have hne : ((s1.length : Int) != (s2.length : Int)) = true := by rw [bne_iff_ne]; omega
    clear h1 h2
    go_enter Tryd.func22, Tryd.ntmps22
    go_wp2
    go_ret
    exact ⟨ret_bool HD.out.symm, 0, rfl⟩
end Go.Proofs.YtgjnhefmheefbaaDoor
namespace Go.Proofs.YtgjnhefmheefbaaDoor
open Go.RowKit Fl
attribute [local go_sem] bget

abbrev LineD := Nat × List (List UInt8)
theorem lineCells_at : ∀ (ls : List LineD) (fvs : List Value) (k : Nat), fvs.length = ls.length → (h : k < ls.length) → ∃ fv, fvs[k]? = some fv ∧ (lineCells ls fvs)[k * 2]? = some (.int .i64 (ls[k].1 : Int)) ∧ (lineCells ls fvs)[k * 2 + 1]? = some fv
  | l :: ls, fv :: fvs, 0, _, _ => ⟨fv, rfl, rfl, rfl⟩
  | l :: ls, fv :: fvs, k + 1, hl, h => by
    obtain ⟨v, h1, h2, h3⟩ := lineCells_at ls fvs k (by simpa using hl) (by simpa using h)
    refine ⟨v, by simpa using h1, ?_, ?_⟩
    · rw [show (k + 1) * 2 = k * 2 + 1 + 1 by omega]; simpa [lineCells] using h2
    · rw [show (k + 1) * 2 + 1 = k * 2 + 1 + 1 + 1 by omega]; simpa [lineCells] using h3
  | [], _, k, _, h => by simp at h
  | _ :: _, [], _, hl, _ => by simp at hl
theorem Holds.get {w : World} {A : Option Addr} {xs : List Value} (h : Holds w A xs) {b o : Nat} (hA : A = some ⟨b, o, none⟩) {j : Nat} {u : Value} (hu : xs[j]? = some u) : w.cell? ⟨b, o + j, none⟩ = some u := by
  rcases h with rfl | ⟨b', o', hA', _, hc⟩
  · simp at hu
  · rw [hA] at hA'
    injection hA' with hA'
    injection hA' with hb ho
    subst hb ho
    obtain ⟨hj, he⟩ := List.getElem?_eq_some_iff.1 hu
    rw [hc j hj, he]
/-- Line k of lines in memory: its number, its fields' slice, and what that holds. -/
theorem LinesAt.line {w : World} {A : Option Addr} {c : Nat} {ls : List LineD} (h : LinesAt w (.slice A ls.length c) ls) {k : Nat} (hk : k < ls.length) :
    ∃ b o A' c', A = some ⟨b, o, none⟩ ∧ w.cell? ⟨b, o + k * 2, none⟩ = some (.int .i64 (ls[k].1 : Int)) ∧ w.cell? ⟨b, o + k * 2 + 1, none⟩ = some (.slice A' ls[k].2.length c') ∧ Holds w A' (ls[k].2.map S) := by
  obtain ⟨A0, c0, fvs, hv, hl, hh, hf⟩ := h
  injection hv with hA _ _
  subst hA
  obtain ⟨fv, h1, h2, h3⟩ := lineCells_at ls fvs k hl hk
  obtain ⟨A', c', hfv, hH⟩ := hf k fv ls[k] h1 (List.getElem?_eq_getElem hk)
  obtain ⟨b, o, hA, _⟩ := hh.at_ (by rw [lineCells_length ls fvs hl]; omega)
  refine ⟨b, o, A', c', hA, hh.get hA h2, ?_, hH⟩
  have := hh.get hA h3
  rw [hfv] at this
  rw [Nat.add_assoc]
  exact this

set_option maxRecDepth 100000 in
set_option maxHeartbeats 2000000 in
theorem sameLines_c (A1 A2 : Option Addr) (c1 c2 : Nat) (s1 s2 : List LineD) (w : World) (h1 : LinesAt w (.slice A1 s1.length c1) s1) (h2 : LinesAt w (.slice A2 s2.length c2) s2) (hl1 : s1.length ≤ 1000000000) (hl2 : s2.length ≤ 1000000000)
    (hf1 : ∀ l ∈ s1, l.2.length ≤ 1000000000) (hf2 : ∀ l ∈ s2, l.2.length ≤ 1000000000) :
    Calls Tryd.prog 9 #[.slice A1 s1.length c1, .slice A2 s2.length c2] w fun e w' => e = .returned (.bool (decide (s1 = s2))) ∧ ∃ n, w' = w.drewN n := by
  by_cases hlen : s1.length = s2.length
  · have H1 := Lib.hid h1
    have H2 := Lib.hid h2
    have F1 := Lib.hid hf1
    have F2 := Lib.hid hf2
    clear h1 h2 hf1 hf2
    have hle : s1.length ≤ s2.length := by omega
    have hge : s2.length ≤ s1.length := by omega
    have hne : ((s1.length : Int) != (s2.length : Int)) = false := by rw [hlen]; simp
    have HLen := Lib.hid hlen
    clear hlen
    go_enter Tryd.func9, Tryd.ntmps9
    go_wp2
    go_loopw [5] (fun i wr => ∃ k : Nat, i = .int .i64 k ∧ k ≤ s1.length ∧ Hid (∃ n, wr = w.drewN n) ∧ Hid (s1.take k = s2.take k)) (fun i _ => s1.length - (intOf i).toNat)
    case atStart => exact ⟨0, rfl, Nat.zero_le _, Lib.hid ⟨0, rfl⟩, Lib.hid (by simp)⟩
    case round =>
      obtain ⟨k, rfl, hk, HW, HT⟩ := hrel
      by_cases hlt : k < s1.length
      · have hlt2 : k < s2.length := by omega
        have hw1 : LinesAt wr (.slice A1 s1.length c1) s1 := by obtain ⟨n, rfl⟩ := HW.out; exact H1.out.keep (below_drewN (Below.refl _ _) n)
        have hw2 : LinesAt wr (.slice A2 s2.length c2) s2 := by obtain ⟨n, rfl⟩ := HW.out; exact H2.out.keep (below_drewN (Below.refl _ _) n)
        obtain ⟨b1, o1, A1', c1', rfl, e1, e1', hh1⟩ := hw1.line hlt
        obtain ⟨b2, o2, A2', c2', rfl, e2, e2', hh2⟩ := hw2.line hlt2
        have CS := Lib.hid (fun n => sameStrings_c A1' A2' c1' c2' s1[k].2 s2[k].2 (wr.drewN n) (hh1.drewN n) (hh2.drewN n) (F1.out _ (List.getElem_mem hlt)) (F2.out _ (List.getElem_mem hlt2)))
        clear hh1 hh2 hw1 hw2 H1 H2 F1 F2
        by_cases he : s1[k].1 = s2[k].1
        · by_cases hf : s1[k].2 = s2[k].2
          · have HS := Lib.hid (show s1.take (k + 1) = s2.take (k + 1) by
              rw [List.take_succ_eq_append_getElem hlt, List.take_succ_eq_append_getElem hlt2, HT.out, show s1[k] = s2[k] from Prod.ext he hf])
            have hd : decide (s1[k].2 = s2[k].2) = true := by simpa using hf
            rw [hd] at CS
            have heq : (((s1[k].1 : Nat) : Int) != ((s2[k].1 : Nat) : Int)) = false := by rw [he]; simp
            have hE := Lib.hid he
            clear he hf hd HT
            generalize s1[k] = x at *
            generalize s2[k] = y at *
            go_wp2
            go_quiet ((go_at_call 22; exact (CS.out _).quiet_of))
            go_wp2
            go_roundw
            case rel => exact ⟨k + 1, by go_num, by omega, Lib.hid (by obtain ⟨n, hn⟩ := HW.out; exact ⟨_, by rw [hn, World.drewN_drewN]⟩), HS⟩
            case measure => simp [intOf]; omega
          · have HD : Hid (decide (s1 = s2) = false) := Lib.hid (by rw [decide_eq_false_iff_not]; exact ne_of_getElem hlt hlt2 fun e => hf (by rw [e]))
            have hd : decide (s1[k].2 = s2[k].2) = false := by simpa using hf
            rw [hd] at CS
            have heq : (((s1[k].1 : Nat) : Int) != ((s2[k].1 : Nat) : Int)) = false := by rw [he]; simp
            clear he hf hd HT
            generalize s1[k] = x at *
            generalize s2[k] = y at *
            go_wp2
            go_quiet ((go_at_call 22; exact (CS.out _).quiet_of))
            go_wp2
            go_ret
            exact ⟨ret_bool HD.out.symm, by obtain ⟨n, hn⟩ := HW.out; exact ⟨_, by rw [hn, World.drewN_drewN]⟩⟩
        · have HD : Hid (decide (s1 = s2) = false) := Lib.hid (by rw [decide_eq_false_iff_not]; exact ne_of_getElem hlt hlt2 fun e => he (by rw [e]))
          have heq : (((s1[k].1 : Nat) : Int) != ((s2[k].1 : Nat) : Int)) = true := by rw [bne_iff_ne]; omega
          clear he HT CS
          generalize s1[k] = x at *
          generalize s2[k] = y at *
          go_wp2
          go_quiet (fail)
          go_wp2
          go_ret
          exact ⟨ret_bool HD.out.symm, by obtain ⟨n, hn⟩ := HW.out; exact ⟨_, by rw [hn, World.drewN_drewN]⟩⟩
      · have HD : Hid (decide (s1 = s2) = true) := Lib.hid (by
          have ht := HT.out
          rw [List.take_of_length_le (by omega), List.take_of_length_le (by omega)] at ht
          rw [ht]; simp)
        clear H1 H2
        go_wp2
        go_ret
        exact ⟨ret_bool HD.out.symm, HW.out⟩
  · have HD : Hid (decide (s1 = s2) = false) := Lib.hid (by rw [decide_eq_false_iff_not]; rintro rfl; exact hlen rfl)
    have hne : ((s1.length : Int) != (s2.length : Int)) = true := by rw [bne_iff_ne]; omega
    clear h1 h2
    go_enter Tryd.func9, Tryd.ntmps9
    go_wp2
    go_ret
    exact ⟨ret_bool HD.out.symm, 0, rfl⟩
end Go.Proofs.YtgjnhefmheefbaaDoor
namespace Go.Proofs.YtgjnhefmheefbaaDoor.Fl
open Go

/-- What may stand between two fields. -/
def IsSep (sep : List UInt8) : Prop := (∀ (cur : List UInt8) (acc : List (List UInt8)) (r : List UInt8), scanA cur acc (sep ++ r) = scanA [] (flush cur acc) r) ∧ 10 ∉ sep
/-- What may stand at the end of a line. -/
def IsTail (tail : List UInt8) : Prop := (∀ (cur : List UInt8) (acc : List (List UInt8)), scanA cur acc tail = .ok (flush cur acc)) ∧ 10 ∉ tail
theorem sep_plain : IsSep [32] := ⟨fun cur acc r => by
  rw [List.singleton_append, scanA, if_neg (by decide), if_pos (.inl (by decide))], by simp⟩
theorem sep_tab : IsSep [9, 32] := ⟨fun cur acc r => by
  show scanA cur acc (9 :: 32 :: r) = _
  rw [scanA, if_neg (by decide), if_pos (.inr (by decide)), scanA, if_neg (by decide), if_pos (.inl (by decide))]
  rfl, by decide⟩
theorem tail_plain : IsTail [] := ⟨fun _ _ => rfl, by simp⟩
theorem tail_comment {com : List UInt8} (h : 10 ∉ com) : IsTail ([32, 9, 35, 32] ++ com) := ⟨fun cur acc => by
  show scanA cur acc (32 :: 9 :: 35 :: 32 :: com) = _
  rw [scanA, if_neg (by decide), if_pos (.inl (by decide)), scanA, if_neg (by decide), if_pos (.inr (by decide)), scanA, if_pos (by decide)]
  rfl, by simp [h]⟩
theorem scanA_field : ∀ (x cur : List UInt8) (acc : List (List UInt8)) (r : List UInt8), x.all fieldByte = true → cur.length + x.length ≤ 12 → scanA cur acc (x ++ r) = scanA (cur ++ x) acc r
  | [], cur, acc, r, _, _ => by simp
  | c :: x, cur, acc, r, h, hl => by
    simp only [List.all_cons, Bool.and_eq_true] at h
    have hb := fieldByte_bounds h.1
    simp only [List.length_cons] at hl
    rw [List.cons_append, scanA, if_neg (by omega), if_neg (by omega), if_pos h.1, if_neg (by omega), scanA_field x (cur ++ [c]) acc r h.2 (by simp; omega)]
    simp
/-- Fields with what stands between them. -/
def joinSep (sep : List UInt8) : List (List UInt8) → List UInt8
  | [] => []
  | [x] => x
  | x :: y :: r => x ++ (sep ++ joinSep sep (y :: r))
theorem fieldOk_all {l : List UInt8} (h : fieldOk l = true) : l.all fieldByte = true := by
  unfold fieldOk at h; simp only [Bool.and_eq_true] at h; exact h.2
theorem scan_fields {sep tail : List UInt8} (hs : IsSep sep) (ht : IsTail tail) : ∀ (fs acc : List (List UInt8)), fs.all fieldOk = true → scanA [] acc (joinSep sep fs ++ tail) = .ok (acc ++ fs)
  | [], acc, _ => by simp [joinSep, ht.1, flush]
  | [x], acc, h => by
    simp only [List.all_cons, List.all_nil, Bool.and_true] at h
    have hl := fieldOk_len h
    rw [joinSep, scanA_field x [] acc tail (fieldOk_all h) (by simp; omega), ht.1, List.nil_append, flush, if_neg (by rintro rfl; simp at hl)]
  | x :: y :: r, acc, h => by
    have h' : fieldOk x = true ∧ (y :: r).all fieldOk = true := by simpa only [List.all_cons, Bool.and_eq_true] using h
    have hl := fieldOk_len h'.1
    rw [joinSep, List.append_assoc, List.append_assoc, scanA_field x [] acc _ (fieldOk_all h'.1) (by simp; omega), hs.1, List.nil_append, flush, if_neg (by rintro rfl; simp at hl), scan_fields hs ht (y :: r) _ h'.2]
    simp
theorem joinSep_no10 {sep : List UInt8} (hs : 10 ∉ sep) : ∀ (fs : List (List UInt8)), fs.all fieldOk = true → 10 ∉ joinSep sep fs
  | [], _ => by simp [joinSep]
  | [x], h => by
    simp only [List.all_cons, List.all_nil, Bool.and_true] at h
    intro hm
    have := List.all_eq_true.1 (fieldOk_all h) 10 hm
    exact absurd this (by decide)
  | x :: y :: r, h => by
    have h' : fieldOk x = true ∧ (y :: r).all fieldOk = true := by simpa only [List.all_cons, Bool.and_eq_true] using h
    rw [joinSep]
    simp only [List.mem_append, not_or]
    refine ⟨fun hm => ?_, hs, joinSep_no10 hs (y :: r) h'.2⟩
    exact absurd (List.all_eq_true.1 (fieldOk_all h'.1) 10 hm) (by decide)
theorem splitNL_line : ∀ (p cur r : List UInt8), 10 ∉ p → splitNL cur (p ++ 10 :: r) = (cur ++ p) :: splitNL [] r
  | [], cur, r, _ => by simp [splitNL]
  | c :: p, cur, r, h => by
    simp only [List.mem_cons, not_or] at h
    rw [List.cons_append, splitNL, if_neg (Ne.symm h.1), splitNL_line p _ r h.2]
    simp
/-- Empty lines. -/
def blanks (tail : List UInt8) : Nat → List UInt8 → List UInt8
  | 0, r => r
  | k + 1, r => tail ++ 10 :: blanks tail k r
/-- The text of lines behind line 'last'. -/
def body (sep tail : List UInt8) (last : Nat) : List (Nat × List (List UInt8)) → List UInt8
  | [] => []
  | x :: r => blanks tail (x.1 - last - 1) (joinSep sep x.2 ++ (tail ++ 10 :: body sep tail x.1 r))
/-- A line with its number as an integer. -/
def toI (x : Nat × List (List UInt8)) : LineI := ((x.1 : Int), x.2)
theorem linesA_blanks {tail : List UInt8} (ht : IsTail tail) : ∀ (k num : Nat) (acc : List (Nat × List (List UInt8))) (r : List UInt8), linesA num acc (splitNL [] (blanks tail k r)) = linesA (num + k) acc (splitNL [] r)
  | 0, _, _, _ => rfl
  | k + 1, num, acc, r => by
    rw [blanks, splitNL_line tail [] _ ht.2, List.nil_append, linesA, ht.1]
    simp only [flush_nil, if_true]
    rw [linesA_blanks ht k (num + 1) acc r, Nat.add_assoc, Nat.add_comm 1 k]
theorem linesA_body {sep tail : List UInt8} (hs : IsSep sep) (ht : IsTail tail) : ∀ (ls : List (Nat × List (List UInt8))) (last : Nat) (acc : List (Nat × List (List UInt8))), formed last (ls.map toI) = true → linesA (last + 1) acc (splitNL [] (body sep tail last ls)) = .ok (acc ++ ls)
  | [], last, acc, _ => by
    simp only [body, splitNL, linesA, scanA, flush_nil, if_true, List.append_nil]
  | x :: r, last, acc, h => by
    have h' : ((last : Int) < (x.1 : Int) ∧ x.2 ≠ []) ∧ x.2.all fieldOk = true ∧ formed (x.1 : Int) (r.map toI) = true := by
      simp only [List.map_cons, formed, Bool.and_eq_true, decide_eq_true_eq, toI] at h
      exact ⟨⟨h.1.1.1, h.1.1.2⟩, h.1.2, h.2⟩
    obtain ⟨⟨h1, h2⟩, h3, h4⟩ := h'
    have hsp : splitNL [] (joinSep sep x.2 ++ (tail ++ 10 :: body sep tail x.1 r)) = (joinSep sep x.2 ++ tail) :: splitNL [] (body sep tail x.1 r) := by
      rw [← List.append_assoc, splitNL_line _ [] _ (by simp only [List.mem_append, not_or]; exact ⟨joinSep_no10 hs.2 _ h3, ht.2⟩), List.nil_append]
    rw [body, linesA_blanks ht, hsp, linesA, scan_fields hs ht x.2 [] h3, List.nil_append]
    simp only [if_neg h2]
    have e : last + 1 + (x.1 - last - 1) = x.1 := by omega
    rw [e, linesA_body hs ht r x.1 _ h4]
    simp
theorem linesT_body {sep tail : List UInt8} (hs : IsSep sep) (ht : IsTail tail) {ls : List (Nat × List (List UInt8))} (h : formed 0 (ls.map toI) = true) (hl : (body sep tail 0 ls).length ≤ 6000) : linesT (body sep tail 0 ls) = .ok ls := by
  unfold linesT
  rw [if_neg (by omega), linesA_body hs ht ls 0 [] h, List.nil_append]
theorem join_sep : ∀ (fs : List (List UInt8)), Lib.join fs [32] = joinSep [32] fs
  | [] => rfl
  | [x] => by rw [Lib.join_one]; rfl
  | x :: y :: r => by
    have h := join_sep (y :: r)
    rw [Lib.join_cons] at h ⊢
    rw [joinSep, ← h]
    simp [Lib.joinTail]
theorem blanks_plain (k : Nat) (r : List UInt8) : blanks [] k r = Lib.repeatL [10] k ++ r := by
  induction k with
  | zero => rfl
  | succ k ih => rw [blanks, ih]; rfl
theorem joinA_body : ∀ (ls : List (Nat × List (List UInt8))) (last : Nat) (acc t : List UInt8), joinA last acc (ls.map toI) = .ok t → t = acc ++ body [32] [] last ls
  | [], _, acc, t, h => by injection h with h; subst h; simp [body]
  | x :: r, last, acc, t, h => by
    simp only [List.map_cons, joinA, toI] at h
    split at h
    · cases h
    · split at h
      · cases h
      · have ih := joinA_body r x.1 _ t h
        rw [ih, body, blanks_plain, ← join_sep]
        have e : ((x.1 : Int) - (last : Int) - 1).toNat = x.1 - last - 1 := by omega
        rw [e]
        simp
/-- Lines of Join of lines are the lines. -/
theorem linesT_joinT {ls : List (Nat × List (List UInt8))} {t : List UInt8} (h : joinT (ls.map toI) = .ok t) (hl : t.length ≤ 6000) : formed 0 (ls.map toI) = true ∧ t = body [32] [] 0 ls ∧ linesT t = .ok ls := by
  unfold joinT at h
  split at h
  · rename_i hf
    have e := joinA_body ls 0 [] t h
    rw [List.nil_append] at e
    refine ⟨hf, e, ?_⟩
    rw [e] at hl ⊢
    exact linesT_body sep_plain tail_plain hf hl
  · cases h
/-- A byte, with a comment before a line feed and a tab before a space. -/
def tr (com : List UInt8) (c : UInt8) : List UInt8 := if c = 10 then [32, 9, 35, 32] ++ com ++ [10] else if c = 32 then [9, 32] else [c]
theorem tr_field (com : List UInt8) : ∀ (x : List UInt8), x.all fieldByte = true → x.flatMap (tr com) = x
  | [], _ => rfl
  | c :: x, h => by
    simp only [List.all_cons, Bool.and_eq_true] at h
    have hb := fieldByte_bounds h.1
    have h1 : c ≠ 10 := by rintro rfl; exact absurd hb.1 (by decide)
    have h2 : c ≠ 32 := by rintro rfl; exact absurd hb.1 (by decide)
    rw [List.flatMap_cons, tr_field com x h.2, tr, if_neg h1, if_neg h2]; rfl
theorem tr_join (com : List UInt8) : ∀ (fs : List (List UInt8)), fs.all fieldOk = true → (joinSep [32] fs).flatMap (tr com) = joinSep [9, 32] fs
  | [], _ => rfl
  | [x], h => by
    simp only [List.all_cons, List.all_nil, Bool.and_true] at h
    exact tr_field com x (fieldOk_all h)
  | x :: y :: r, h => by
    have h' : fieldOk x = true ∧ (y :: r).all fieldOk = true := by simpa only [List.all_cons, Bool.and_eq_true] using h
    rw [joinSep, joinSep, List.flatMap_append, List.flatMap_append, tr_field com x (fieldOk_all h'.1), tr_join com (y :: r) h'.2]
    rfl
theorem tr_blanks (com : List UInt8) (k : Nat) (r : List UInt8) : (blanks [] k r).flatMap (tr com) = blanks ([32, 9, 35, 32] ++ com) k (r.flatMap (tr com)) := by
  induction k with
  | zero => rfl
  | succ k ih =>
    rw [blanks, blanks, List.nil_append, List.flatMap_cons, ih, tr, if_pos rfl]
    simp
theorem tr_body (com : List UInt8) : ∀ (ls : List (Nat × List (List UInt8))) (last : Int) (l : Nat), formed last (ls.map toI) = true → (body [32] [] l ls).flatMap (tr com) = body [9, 32] ([32, 9, 35, 32] ++ com) l ls
  | [], _, _, _ => rfl
  | x :: r, last, l, h => by
    have h' : x.2.all fieldOk = true ∧ formed (x.1 : Int) (r.map toI) = true := by
      simp only [List.map_cons, formed, Bool.and_eq_true, decide_eq_true_eq, toI] at h
      exact ⟨h.1.2, h.2⟩
    rw [body, body, tr_blanks, List.flatMap_append, tr_join com x.2 h'.1, List.nil_append, List.flatMap_cons, tr_body com r x.1 x.1 h'.2, tr, if_pos rfl]
    simp
/-- A comment in every line and further blanks change nothing. -/
theorem linesT_commented {ls : List (Nat × List (List UInt8))} {t com : List UInt8} (hf : formed 0 (ls.map toI) = true) (ht : t = body [32] [] 0 ls) (hc : 10 ∉ com) (hl : (t.flatMap (tr com)).length ≤ 6000) : linesT (t.flatMap (tr com)) = .ok ls := by
  subst ht
  rw [tr_body com ls 0 0 hf] at hl ⊢
  exact linesT_body sep_tab (tail_comment hc) hf hl
end Go.Proofs.YtgjnhefmheefbaaDoor.Fl
namespace Go.Proofs.YtgjnhefmheefbaaDoor
open Go.RowKit Fl
attribute [local go_sem] bget

/-- From address A on, the cells hold the lines ls: each a number and a slice of its fields. -/
def RawAt (w : World) (A : Option Addr) (ls : List LineI) : Prop := ls = [] ∨ ∃ b o, A = some ⟨b, o, none⟩ ∧ b < w.heap.size ∧
  ∀ k (h : k < ls.length), ∃ A' c', w.cell? ⟨b, o + k * 2, none⟩ = some (.int .i64 ls[k].1) ∧ w.cell? ⟨b, o + k * 2 + 1, none⟩ = some (.slice A' ls[k].2.length c') ∧ ls[k].2.length ≤ c' ∧ Holds w A' (ls[k].2.map S)
theorem RawAt.keep {w w' : World} {A : Option Addr} {ls : List LineI} (h : RawAt w A ls) (hb : Below w.heap.size w w') : RawAt w' A ls := by
  rcases h with h | ⟨b, o, hA, hlt, hc⟩
  · exact .inl h
  · refine .inr ⟨b, o, hA, Nat.lt_of_lt_of_le hlt hb.size, fun k hk => ?_⟩
    obtain ⟨A', c', h1, h2, h3, h4⟩ := hc k hk
    exact ⟨A', c', (hb.cell (p := ⟨b, o + k * 2, none⟩) hlt).trans h1, (hb.cell (p := ⟨b, o + k * 2 + 1, none⟩) hlt).trans h2, h3, h4.keep hb⟩
theorem RawAt.line {w : World} {A : Option Addr} {ls : List LineI} (h : RawAt w A ls) {k : Nat} (hk : k < ls.length) :
    ∃ b o A' c', A = some ⟨b, o, none⟩ ∧ w.cell? ⟨b, o + k * 2, none⟩ = some (.int .i64 ls[k].1) ∧ w.cell? ⟨b, o + k * 2 + 1, none⟩ = some (.slice A' ls[k].2.length c') ∧ ls[k].2.length ≤ c' ∧ Holds w A' (ls[k].2.map S) := by
  rcases h with rfl | ⟨b, o, hA, _, hc⟩
  · simp at hk
  · obtain ⟨A', c', h1, h2, h3, h4⟩ := hc k hk
    exact ⟨b, o, A', c', hA, h1, h2, h3, h4⟩

end Go.Proofs.YtgjnhefmheefbaaDoor
namespace Go.Proofs.YtgjnhefmheefbaaDoor
open Go.RowKit Fl
attribute [local go_sem] bget

/-- Below block U, but for block g, the world is as it was. -/
structure Kept (g U : Nat) (w w' : World) : Prop where
  os : w'.os = w.os
  tape : w'.tape = w.tape
  output : w'.output = w.output
  size : w.heap.size ≤ w'.heap.size
  block : ∀ k, k < U → k ≠ g → w'.heap[k]? = w.heap[k]?
theorem Kept.refl (g U : Nat) (w : World) : Kept g U w w := ⟨rfl, rfl, rfl, Nat.le_refl _, fun _ _ _ => rfl⟩
theorem Kept.trans {g U : Nat} {a b c : World} (h : Kept g U a b) (k : Kept g U b c) : Kept g U a c :=
  ⟨k.os.trans h.os, k.tape.trans h.tape, k.output.trans h.output, Nat.le_trans h.size k.size, fun i hi hg => (k.block i hi hg).trans (h.block i hi hg)⟩
theorem Kept.mono {g U U' : Nat} {a b : World} (h : Kept g U a b) (hU : U' ≤ U) : Kept g U' a b := ⟨h.os, h.tape, h.output, h.size, fun k hk hg => h.block k (by omega) hg⟩
theorem Kept.of_below {g U : Nat} {a b : World} (h : Below U a b) : Kept g U a b := ⟨h.os, h.tape, h.output, h.size, fun k hk _ => h.block k hk⟩
theorem Kept.of_grown {g U : Nat} {a b : World} {row : Option Nat} (hg : a.grownBy b row) (hU : U ≤ a.heap.size) (hr : ∀ k, row = some k → k = g ∨ U ≤ k) : Kept g U a b :=
  ⟨hg.os, hg.tape, hg.output, hg.size, fun k hk hne => hg.block k (by omega) (fun e => by rcases hr k e.symm with h | h <;> omega)⟩
theorem Kept.below {g U B : Nat} {a b : World} (h : Kept g U a b) (hB : B ≤ U) (hg : B ≤ g) : Below B a b := ⟨h.os, h.tape, h.output, h.size, fun k hk => h.block k (by omega) (by omega)⟩
theorem ownsRow_keptG {g U base : Nat} {w w' : World} {e : TypeId} {size n : Nat} {v : Value} {xs : List Value} (h : w.ownsRow base e size v n xs) (hk : Kept g U w w') (hU : w.heap.size ≤ U) (hg : g < base) : w'.ownsRow base e size v n xs := by
  obtain ⟨h1, hr⟩ := h
  refine ⟨h1, ?_⟩
  rcases hr with hr | ⟨b, cap, cur, hv, hgb, hh, hrest⟩
  · exact .inl hr
  · exact .inr ⟨b, cap, cur, hv, hgb, (hk.block b (by have := block_lt hh; omega) (by omega)).trans hh, hrest⟩
theorem LinesOwn.keptG {g U base : Nat} {w w' : World} {v : Value} {ls : List LineD} (h : LinesOwn w base v ls) (hk : Kept g U w w') (hU : w.heap.size ≤ U) (hg : g < base) : LinesOwn w' base v ls := by
  obtain ⟨fvs, hl, hown, hf⟩ := h
  exact ⟨fvs, hl, ownsRow_keptG hown hk hU hg, fun i fv l h1 h2 => ownsRow_keptG (hf i fv l h1 h2) hk hU hg⟩
theorem own_ne_block {w : World} {base X : Nat} {e t : TypeId} {size n : Nat} {v : Value} {xs : List Value} {cs : Array Value} {fz : Nat × Nat} (h : w.ownsRow base e size v n xs) (hX : w.heap[X]? = some (.cells cs t fz)) (ht : e ≠ t) : v.ownBlock ≠ some X := by
  obtain ⟨_, hr⟩ := h
  rcases hr with ⟨rfl, _⟩ | ⟨g, cap, cur, rfl, _, hh, _⟩
  · simp [Value.ownBlock]
  · intro e1
    simp [Value.ownBlock] at e1
    subst e1
    rw [hh] at hX
    injection hX with hX
    injection hX with _ h2
    exact ht h2
theorem ownsRow_grownB {w w' : World} {base X : Nat} {e t : TypeId} {size n : Nat} {v : Value} {xs : List Value} {cs : Array Value} {fz : Nat × Nat} (h : w.ownsRow base e size v n xs) (hg : w.grownBy w' (some X)) (hX : w.heap[X]? = some (.cells cs t fz)) (ht : e ≠ t) : w'.ownsRow base e size v n xs := by
  have hne := own_ne_block h hX ht
  obtain ⟨h1, hr⟩ := h
  refine ⟨h1, ?_⟩
  rcases hr with hr | ⟨g, cap, cur, rfl, hgb, hh, hrest⟩
  · exact .inl hr
  · exact .inr ⟨g, cap, cur, rfl, hgb, (hg.block g (block_lt hh) (fun e1 => hne (by simpa [Value.ownBlock] using e1))).trans hh, hrest⟩
theorem grown_set (w : World) (X i : Nat) (v : Value) : w.grownBy (w.setCell ⟨X, i, none⟩ v) (some X) :=
  ⟨rfl, rfl, rfl, by simp [World.setCell], fun k _ hne => Below.heap_setCell w ⟨X, i, none⟩ v k (fun e => hne (by rw [e]))⟩
theorem set_block {w : World} {X : Nat} {a b v : Value} {t : TypeId} (h : w.heap[X]? = some (.cells #[a, b] t (0, 0))) : (w.setCell ⟨X, 1, none⟩ v).heap[X]? = some (.cells #[a, v] t (0, 0)) := by
  simp [World.setCell, Array.getElem?_modify]
  exact ⟨_, h, by simp⟩
/-- Lines whose numbers go from a to b by at most three, each with one to four fields. -/
def madeTo (a : Nat) : List LineD → Nat → Prop
  | [], b => a = b
  | x :: r, b => a < x.1 ∧ x.1 ≤ a + 3 ∧ 0 < x.2.length ∧ x.2.length ≤ 4 ∧ x.2.all fieldOk = true ∧ madeTo x.1 r b
theorem madeTo_snoc : ∀ (ls : List LineD) (a b : Nat) (x : LineD), madeTo a ls b → b < x.1 → x.1 ≤ b + 3 → 0 < x.2.length → x.2.length ≤ 4 → x.2.all fieldOk = true → madeTo a (ls ++ [x]) x.1
  | [], a, b, x, h, h1, h2, h3, h4, h5 => by
    subst h
    exact ⟨h1, h2, h3, h4, h5, rfl⟩
  | y :: r, a, b, x, ⟨g1, g2, g3, g4, g5, g6⟩, h1, h2, h3, h4, h5 => ⟨g1, g2, g3, g4, g5, madeTo_snoc r y.1 b x g6 h1 h2 h3 h4 h5⟩
theorem madeTo_formed : ∀ (ls : List LineD) (a b : Nat), madeTo a ls b → formed a (ls.map toI) = true
  | [], _, _, _ => rfl
  | x :: r, a, b, ⟨g1, _, g3, _, g5, g6⟩ => by
    simp only [List.map_cons, formed, toI, Bool.and_eq_true, decide_eq_true_eq]
    exact ⟨⟨⟨by omega, List.length_pos_iff.1 g3⟩, g5⟩, madeTo_formed r x.1 b g6⟩
theorem madeTo_join : ∀ (ls : List LineD) (a b : Nat) (acc : List UInt8), madeTo a ls b → a + 3 * ls.length ≤ 6000 → acc.length + 60 * ls.length ≤ 6000 → ∃ t, joinA a acc (ls.map toI) = .ok t ∧ t.length ≤ 6000
  | [], a, b, acc, _, _, h2 => ⟨acc, rfl, by simpa using h2⟩
  | x :: r, a, b, acc, ⟨g1, g2, g3, g4, g5, g6⟩, h1, h2 => by
    have hj := join_length_le _ g5
    have hr : (Lib.repeatL [10] ((x.1 : Int) - (a : Int) - 1).toNat).length ≤ 3 := by rw [Lib.repeatL_length]; simp; omega
    simp only [List.length_cons] at h1 h2
    have hlen : (acc ++ Lib.repeatL [10] ((x.1 : Int) - (a : Int) - 1).toNat ++ Lib.join x.2 [32] ++ [10]).length ≤ acc.length + 60 := by
      simp only [List.length_append, List.length_cons, List.length_nil]; omega
    simp only [List.map_cons, joinA, toI]
    rw [if_neg (by omega), if_neg (by omega)]
    exact madeTo_join r x.1 b _ g6 (by omega) (by omega)
theorem madeTo_T {ls : List LineD} {b : Nat} (h : madeTo 0 ls b) (hl : ls.length ≤ 5) : ∃ t, joinT (ls.map toI) = .ok t ∧ t.length ≤ 6000 := by
  unfold joinT
  rw [show formed 0 (ls.map toI) = true from madeTo_formed ls 0 b h]
  exact madeTo_join ls 0 b [] h (by omega) (by simp; omega)
abbrev lSigns : List UInt8 := [97, 90, 48, 57, 45, 95, 33, 126]
theorem lSigns_field : ∀ q (h : q < lSigns.length), fieldByte lSigns[q] = true := by decide

theorem own_slice_cap {w : World} {base : Nat} {e : TypeId} {size n : Nat} {v : Value} {xs : List Value} (h : w.ownsRow base e size v n xs) : ∃ A c, v = .slice A n c ∧ n ≤ c := by
  obtain ⟨_, h2⟩ := h
  rcases h2 with ⟨rfl, rfl⟩ | ⟨g, cap, cur, rfl, _, _, hc, _⟩
  · exact ⟨_, _, rfl, Nat.le_refl _⟩
  · exact ⟨_, _, rfl, hc⟩
theorem LinesOwn.raw {w : World} {base : Nat} {A : Option Addr} {c n : Nat} {ls : List LineD} (h : LinesOwn w base (.slice A n c) ls) : RawAt w A (ls.map toI) := by
  obtain ⟨fvs, hl, hown, hf⟩ := h
  obtain ⟨A1, c1, hv⟩ := own_slice hown
  injection hv with hA hn hc
  subst hA hn hc
  have hh := ownsRow_holds hown
  rcases Nat.eq_zero_or_pos ls.length with h0 | h0
  · left
    rw [List.eq_nil_of_length_eq_zero h0]; rfl
  · obtain ⟨b, o, hA, hlt, _⟩ := hh.at_ (by rw [lineCells_length ls fvs hl]; omega)
    refine .inr ⟨b, o, hA, hlt, fun k hk => ?_⟩
    have hk' : k < ls.length := by simpa using hk
    obtain ⟨fv, g1, g2, g3⟩ := lineCells_at ls fvs k hl hk'
    have hfo := hf k fv ls[k] g1 (List.getElem?_eq_getElem hk')
    obtain ⟨A', c', rfl, hcap⟩ := own_slice_cap hfo
    have e : (ls.map toI)[k] = toI ls[k] := by simp
    rw [e]
    exact ⟨A', c', hh.get hA g2, by rw [Nat.add_assoc]; exact hh.get hA g3, hcap, ownsRow_holds hfo⟩
def MadePost (w : World) (e : Ending) (w' : World) : Prop := ∃ (ls : List LineD) (A' : Option Addr) (c' b : Nat), e = .returned (.slice A' ls.length c') ∧ LinesAt w' (.slice A' ls.length c') ls ∧ RawAt w' A' (ls.map toI) ∧ ls.length ≤ 5 ∧ madeTo 0 ls b ∧ Below w.heap.size w w'

end Go.Proofs.YtgjnhefmheefbaaDoor
