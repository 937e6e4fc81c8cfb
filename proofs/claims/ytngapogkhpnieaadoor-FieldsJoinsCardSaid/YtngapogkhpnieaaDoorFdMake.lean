/- What the statements make of lists of numbers: bytes in rows of the call's own, tapes over arguments; and the contract of the statements' text. -/
import Derived.Test.YtngapogkhpnieaaDoorFdSmall
import Derived.Test.YtngapogkhpnieaaDoorFdScan
import Derived.Test.YtngapogkhpnieaaDoorFdLines
import Derived.Test.YtngapogkhpnieaaDoorFdDigits
import Derived.Test.YtngapogkhpnieaaDoorTape
import Derived.Lib.BufferRead
import Derived.Deep.DeepCutAuto
import Derived.Deep.RegionWith
namespace Go.Proofs.YtngapogkhpnieaaDoor
open Go.RowKit Fl
attribute [local go_sem] bget

/-- A byte as a cell. -/
abbrev Bv (c : UInt8) : Value := .int .u8 (c.toNat : Int)
theorem ownsRow_but {w w' : World} {base g : Nat} {e : TypeId} {size n : Nat} {v : Value} {xs : List Value} (h : w.ownsRow base e size v n xs) (hg : w.grownBy w' (some g)) (hlt : g < base) : w'.ownsRow base e size v n xs := by
  obtain ⟨h1, hr⟩ := h
  refine ⟨h1, ?_⟩
  rcases hr with hr | ⟨b, cap, cur, hv, hgb, hh, hrest⟩
  · exact .inl hr
  · exact .inr ⟨b, cap, cur, hv, hgb, (hg.block b (block_lt hh) (fun e => by injection e with e; omega)).trans hh, hrest⟩
/-- string(b), b a row of the call's own. -/
theorem conv_own {W : World} {base : Nat} {v : Value} {bs : List UInt8} (h : W.ownsRow base 5 1 v bs.length (bs.map Bv)) :
    Sem.run Tryd.prog (convert 35 9 v) W = .ok (.string ⟨bs.toArray⟩) W := by
  obtain ⟨A, c, rfl⟩ := own_slice h
  have hh := ownsRow_holds h
  rcases hh with hn | ⟨b, o, rfl, _, hc⟩
  · have hb : bs = [] := by simpa using hn
    subst hb
    rcases h.2 with ⟨hv, _⟩ | ⟨g, cap, cur, hv, _⟩
    · injection hv with hA _ hcc
      subst hA
      exact Lib.run_convert_nil_bytes W _ _ 5 _ Tryd.underlying35 Tryd.underlying5 Tryd.underlying9
    · injection hv with hA _ hcc
      subst hA
      exact run_convert_bytes_back (P := Tryd.prog) W 35 9 5 ⟨g, 0, none⟩ c [] Tryd.underlying35 Tryd.underlying5 Tryd.underlying9 (fun j hj => by simp at hj)
  · refine run_convert_bytes_back (P := Tryd.prog) W 35 9 5 ⟨b, o, none⟩ c bs Tryd.underlying35 Tryd.underlying5 Tryd.underlying9 (fun j hj => ?_)
    have e1 := hc j (by simpa using hj)
    have e2 : (⟨b, o, none⟩ : Addr).add j = ⟨b, o + j, none⟩ := by unfold Addr.add; split <;> simp_all
    rw [e2, e1]; simp
theorem Tryd.infoByte : (Tryd.prog.info? 5).map (fun i => (i.zero, i.size, i.bytes)) = some (some (.int .u8 0), 1, 1) := by kernel_rfl
/-- The list of numbers that an argument holds. -/
def IntsAt (w : World) (B : Nat) (A : Option Addr) (zs : List Int) : Prop :=
  0 < zs.length → ∃ b o, A = some ⟨b, o, none⟩ ∧ b < B ∧ ∀ j (h : j < zs.length), w.cell? ⟨b, o + j, none⟩ = some (.int .i64 zs[j]) ∧ -9223372036854775808 ≤ zs[j] ∧ zs[j] ≤ 9223372036854775807
theorem tape_new {w w1 : World} {B : Nat} {A : Option Addr} {c : Nat} {zs : List Int} (h : IntsAt w B A zs) (hB : B ≤ w.heap.size) (hb : Below w.heap.size w w1) (hl : zs.length ≤ maxLen) :
    TapeOk (w1.alloc (.cells #[.slice A zs.length c, .int .i64 0] 34)) B w1.heap.size 0 := by
  refine ⟨A, zs.length, c, 0, zs, heap_alloc_new w1 _, rfl, Nat.le_refl _, by have := hb.size; omega, hl, fun hn => ?_⟩
  obtain ⟨b, o, hA, hlt, hc⟩ := h hn
  refine ⟨b, o, hA, hlt, fun j hj => ⟨?_, (hc j hj).2⟩⟩
  have hbb : Below w.heap.size w (w1.alloc (.cells #[.slice A zs.length c, .int .i64 0] 34)) := hb.alloc hb.size _
  rw [hbb.cell (p := ⟨b, o + j, none⟩) (by show b < _; omega)]
  exact (hc j hj).1
theorem IntsAt.keep {w w' : World} {B : Nat} {A : Option Addr} {zs : List Int} (h : IntsAt w B A zs) (hB : B ≤ w.heap.size) (hb : Below w.heap.size w w') : IntsAt w' B A zs := fun hn => by
  obtain ⟨b, o, hA, hlt, hc⟩ := h hn
  exact ⟨b, o, hA, hlt, fun j hj => ⟨(hb.cell (p := ⟨b, o + j, none⟩) (by show b < _; omega)).trans (hc j hj).1, (hc j hj).2⟩⟩
theorem IntsAt.more {w : World} {B B' : Nat} {A : Option Addr} {zs : List Int} (h : IntsAt w B A zs) (hB : B ≤ B') : IntsAt w B' A zs := fun hn => by
  obtain ⟨b, o, hA, hlt, hc⟩ := h hn
  exact ⟨b, o, hA, by omega, hc⟩

abbrev tSigns : List UInt8 := [97, 98, 48, 45, 57, 95, 35, 32, 32, 9, 10, 10, 126, 33]
set_option maxRecDepth 100000 in
set_option maxHeartbeats 4000000 in
theorem text_c (A : Option Addr) (c : Nat) (zs : List Int) (w : World) (hz : IntsAt w w.heap.size A zs) (hzl : zs.length ≤ maxLen) :
    Calls Tryd.prog 10 #[.slice A zs.length c] w fun e w' => ∃ t : List UInt8, t.length ≤ 200 ∧ e = .returned (.string ⟨t.toArray⟩) ∧ Below w.heap.size w w' := by
  have hzl2 := hzl
  unfold maxLen at hzl2
  go_enter Tryd.func10, Tryd.ntmps10
  go_wp2
  have ht := tape_new (c := c) hz (Nat.le_refl _) (Below.refl _ w) hzl
  have hb : Below w.heap.size w (w.alloc (.cells #[.slice A zs.length c, .int .i64 0] 34)) := (Below.refl _ _).alloc (Nat.le_refl _) _
  have hsz : w.heap.size < (w.alloc (.cells #[.slice A zs.length c, .int .i64 0] 34)).heap.size := by simp
  go_loopw [5, 6] (fun v i wr => ∃ (k : Nat) (bs : List UInt8), i = .int .i64 k ∧ k ≤ 200 ∧ bs.length ≤ k ∧ Hid (wr.ownsRow (w.heap.size + 1) 5 1 v bs.length (bs.map Bv)) ∧ Hid (TapeOk wr w.heap.size w.heap.size (3 * k)) ∧ Below w.heap.size w wr ∧ w.heap.size < wr.heap.size) (fun _ i _ => 200 - (intOf i).toNat)
  case atStart => exact ⟨0, [], rfl, by omega, Nat.le_refl _, Lib.hid ⟨rfl, .inl ⟨rfl, rfl⟩⟩, Lib.hid ht, hb, hsz⟩
  case round =>
    clear hb hsz ht
    obtain ⟨k, bs, rfl, hk, hbl, HO, HT, hb, hsz⟩ := hrel
    by_cases hgo : k < zs.length ∧ k < 200
    · obtain ⟨hgo1, hgo2⟩ := hgo
      go_wp2_with fail
      refine (next_c w.heap.size w.heap.size _ 14 wr HT.out (by omega) (by omega) (by omega)).mono ?_
      clear HT
      rintro e w4 ⟨q, hq, rfl, ht4, hg4⟩
      have own4 := ownsRow_but HO.out hg4 (Nat.lt_succ_self _)
      have hb4 : Below w.heap.size w w4 := hb.grown hg4 hb.size (fun k hk => by injection hk with hk; omega)
      have hsz4 : w.heap.size < w4.heap.size := by have := hg4.size; omega
      clear HO hg4 hb hsz
      have hq14 : q < tSigns.length := by show q < 14; omega
      have hq14' : (q : Int) < 14 := hq
      go_wp2_with fail
      refine (next_c w.heap.size w.heap.size _ 150 w4 ht4 (by omega) (by omega) (by omega)).mono ?_
      clear ht4
      rintro e w5 ⟨q2, hq2, rfl, ht5, hg5⟩
      have own5 := ownsRow_but own4 hg5 (Nat.lt_succ_self _)
      have hb5 : Below w.heap.size w w5 := hb4.grown hg5 hb4.size (fun k hk => by injection hk with hk; omega)
      have hsz5 : w.heap.size < w5.heap.size := by have := hg5.size; omega
      clear own4 hg5 hb4 hsz4
      by_cases hz0 : q2 = 0
      · subst hz0
        go_wp2_with fail
        refine (next_c w.heap.size w.heap.size _ 256 w5 ht5 (by omega) (by omega) (by omega)).mono ?_
        clear ht5
        rintro e w6 ⟨q3, hq3, rfl, ht6, hg6⟩
        obtain ⟨c3, rfl⟩ : ∃ c3 : UInt8, q3 = c3.toNat := ⟨UInt8.ofNat q3, by rw [UInt8.toNat_ofNat']; exact (Nat.mod_eq_of_lt (by omega)).symm⟩
        have own6 := ownsRow_but own5 hg6 (Nat.lt_succ_self _)
        have hb6 : Below w.heap.size w w6 := hb5.grown hg6 hb5.size (fun k hk => by injection hk with hk; omega)
        have hsz6 : w.heap.size < w6.heap.size := by have := hg6.size; omega
        clear own5 hg6 hb5 hsz5
        have base6 := own_base own6
        have HT6 := Lib.hid ht6
        clear ht6
        obtain ⟨i0, hi, hz0, hz1, hz2⟩ := info_parts Tryd.infoByte
        go_wp2_with (at_builtin; refine wpList_append_own _ rfl _ _ 35 rfl (w.heap.size + 1) 5 i0 (.int .u8 0) 1 1 Tryd.underlying35 hi hz0 hz1 hz2 rfl (by decide) _ _ _ rfl (own6.alloc _) ⟨w6.heap.size, 0, none⟩ 1 1 [Bv c3] rfl rfl ?c1 ?c2 ?c3 ?c4 ?c5 ?_)
        case c1 =>
          intro j u hu
          rcases j with _ | j
          · simp at hu; subst hu; simp [go_sem]
          · simp at hu
        case c2 => intro u hu; simp at hu; subst hu; rfl
        case c3 => unfold maxLen; omega
        case c4 => omega
        case c5 => simp; omega
        intro v' w7 own7 hg7 _
        have hb7 : Below w.heap.size w w7 := (hb6.alloc hb6.size _).grown hg7 (by have := hb6.size; simp; omega) (fun k hk => by have := base6 k hk; omega)
        have hsz7 : w.heap.size < w7.heap.size := by have := hg7.size; simp at this; omega
        have HT7 : Hid (TapeOk w7 w.heap.size w.heap.size (3 * (k + 1))) := Lib.hid (((HT6.out.keep ((Below.refl _ _).alloc (Nat.le_refl _) _)).grown hg7 (fun e => by have := base6 _ e; omega) (fun k hk => by have := base6 k hk; omega)).more (by omega))
        have HO7 : Hid (w7.ownsRow (w.heap.size + 1) 5 1 v' (bs ++ [c3]).length ((bs ++ [c3]).map Bv)) := Lib.hid (by simpa using own7)
        have hlen7 : (bs ++ [c3]).length ≤ k + 1 := by simp; omega
        clear hg7 own7 own6 base6 hi hz0 hz1 hz2 HT6 hb6 hsz6
        go_wp2
        go_roundw
        case rel => exact ⟨k + 1, _, by go_num, by omega, hlen7, HO7, HT7, hb7, hsz7⟩
        case measure => simp [intOf]; omega
      · have hz1 : ((q2 : Int) == 0) = false := by rw [beq_eq_false_iff_ne]; omega
        clear hz0
        have base6 := own_base own5
        have HT6 := Lib.hid ht5
        clear ht5
        obtain ⟨i0, hi, hz0, hz1, hz2⟩ := info_parts Tryd.infoByte
        go_wp2_with (at_builtin; refine wpList_append_own _ rfl _ _ 35 rfl (w.heap.size + 1) 5 i0 (.int .u8 0) 1 1 Tryd.underlying35 hi hz0 hz1 hz2 rfl (by decide) _ _ _ rfl (own5.alloc _) ⟨w5.heap.size, 0, none⟩ 1 1 [Bv tSigns[q]] rfl rfl ?c1 ?c2 ?c3 ?c4 ?c5 ?_)
        case c1 =>
          intro j u hu
          rcases j with _ | j
          · simp at hu; subst hu; simp [go_sem]
          · simp at hu
        case c2 => intro u hu; simp at hu; subst hu; rfl
        case c3 => unfold maxLen; omega
        case c4 => omega
        case c5 => simp; omega
        intro v' w7 own7 hg7 _
        have hb7 : Below w.heap.size w w7 := (hb5.alloc hb5.size _).grown hg7 (by have := hb5.size; simp; omega) (fun k hk => by have := base6 k hk; omega)
        have hsz7 : w.heap.size < w7.heap.size := by have := hg7.size; simp at this; omega
        have HT7 : Hid (TapeOk w7 w.heap.size w.heap.size (3 * (k + 1))) := Lib.hid (((HT6.out.keep ((Below.refl _ _).alloc (Nat.le_refl _) _)).grown hg7 (fun e => by have := base6 _ e; omega) (fun k hk => by have := base6 k hk; omega)).more (by omega))
        have HO7 : Hid (w7.ownsRow (w.heap.size + 1) 5 1 v' (bs ++ [tSigns[q]]).length ((bs ++ [tSigns[q]]).map Bv)) := Lib.hid (by simpa using own7)
        have hlen7 : (bs ++ [tSigns[q]]).length ≤ k + 1 := by simp; omega
        clear hg7 own7 own5 base6 hi hz0 hz1 hz2 HT6 hb5 hsz5
        go_wp2
        go_roundw
        case rel => exact ⟨k + 1, _, by go_num, by omega, hlen7, HO7, HT7, hb7, hsz7⟩
        case measure => simp [intOf]; omega
    · have hgo' : zs.length ≤ k ∨ k < zs.length ∧ 200 ≤ k := by omega
      clear hgo
      rcases hgo' with h1 | ⟨h1, h2⟩
      all_goals
        have hcv := conv_own HO.out
        go_wp2_with fail
        go_ret
        exact ⟨bs, by omega, rfl, hb⟩
end Go.Proofs.YtngapogkhpnieaaDoor
