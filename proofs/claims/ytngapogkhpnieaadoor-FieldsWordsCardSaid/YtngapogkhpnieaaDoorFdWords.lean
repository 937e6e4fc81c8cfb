/- FieldsWords returns true: Number and Name return what the reference returns, for every string and for those of digits and letters. -/
import Derived.Test.YtngapogkhpnieaaDoorFdKnown
import Derived.Test.YtngapogkhpnieaaDoorFdRefNum
import Derived.Test.YtngapogkhpnieaaDoorFdDigits
import Derived.Test.YtngapogkhpnieaaDoorFdMake
namespace Go.Proofs.YtngapogkhpnieaaDoor
open Go.RowKit Fl
attribute [local go_sem] bget

theorem Name_q (l : List UInt8) (w : World) (hs : l.length ≤ maxLen) : Calls Tryd.prog 18 #[.string ⟨l.toArray⟩] w fun e w' => e = .returned (.bool (name l)) ∧ w' = w :=
  (Name_c l w hs).mono fun _ _ ⟨he, hw⟩ => ⟨he, hw.symm⟩
theorem refName_q (l : List UInt8) (w : World) (hs : l.length ≤ maxLen) : Calls Tryd.prog 19 #[.string ⟨l.toArray⟩] w fun e w' => e = .returned (.bool (name l)) ∧ w' = w :=
  (refName_c l w hs).mono fun _ _ ⟨he, hw⟩ => ⟨he, hw.symm⟩
abbrev wSigns : List UInt8 := [48, 49, 57, 48, 45, 97, 122, 95]

set_option maxRecDepth 100000 in
set_option maxHeartbeats 4000000 in
theorem fieldsWords_c (l : List UInt8) (A : Option Addr) (c : Nat) (zs : List Int) (m : Int) (w : World) (hs : l.length ≤ 140737488351232) (hz : IntsAt w w.heap.size A zs) (hzl : zs.length ≤ maxLen) (hm : w.cell? ⟨0, 0, none⟩ = some (.int .i64 m)) :
    Calls Tryd.prog 4 #[.string ⟨l.toArray⟩, .slice A zs.length c] w fun e w' => e = .returned (.bool true) ∧ Below w.heap.size w w' := by
  have C := Lib.hid (known_c m w hm)
  clear hm
  have HZ := Lib.hid hz
  have HL := Lib.hid hzl
  clear hz hzl
  go_enter Tryd.func4, Tryd.ntmps4
  go_wp2_with fail
  refine C.out.mono ?_
  rintro e w1 ⟨rfl, hb1⟩
  go_wp2_with fail
  have ht := tape_new (c := c) HZ.out (Nat.le_refl _) hb1 HL.out
  have hb2 : Below w.heap.size w (w1.alloc (.cells #[.slice A zs.length c, .int .i64 0] 34)) := hb1.alloc hb1.size _
  have hgB : w.heap.size ≤ w1.heap.size := hb1.size
  have hsz : w1.heap.size < (w1.alloc (.cells #[.slice A zs.length c, .int .i64 0] 34)).heap.size := by simp
  generalize w1.heap.size = g at *
  generalize w1.alloc (.cells #[.slice A zs.length c, .int .i64 0] 34) = w2 at *
  clear hb1 HZ HL
  refine (next_c w.heap.size g 0 15 w2 ht (by omega) (by omega) (by omega)).mono ?_
  clear ht
  rintro e w3 ⟨r, hr, rfl, ht3, hg3⟩
  have hb3 : Below w.heap.size w w3 := hb2.grown hg3 (by have := hb2.size; omega) (fun k hk => by injection hk with hk; omega)
  have hsz3 : g < w3.heap.size := by have := hg3.size; omega
  clear hg3 hb2 hsz
  go_wp2
  go_loopw [6, 7] (fun v i wr => ∃ (r : Nat) (bs : List UInt8), i = .int .i64 r ∧ r + bs.length ≤ 15 ∧ Hid (wr.ownsRow (g + 1) 5 1 v bs.length (bs.map Bv)) ∧ Hid (TapeOk wr w.heap.size g (bs.length + 1)) ∧ Below w.heap.size w wr ∧ g < wr.heap.size) (fun _ i _ => (intOf i).toNat)
  case atStart => exact ⟨r, [], rfl, by simp; omega, Lib.hid ⟨rfl, .inl ⟨rfl, rfl⟩⟩, Lib.hid ht3, hb3, hsz3⟩
  case round =>
    clear hb3 hsz3 ht3 hr
    obtain ⟨r, bs, rfl, hr, HO, HT, hb, hsz⟩ := hrel
    by_cases hr0 : 0 < r
    · go_wp2_with fail
      refine (next_c w.heap.size g _ 8 wr HT.out (by omega) (by omega) (by omega)).mono ?_
      clear HT
      rintro e w4 ⟨q, hq, rfl, ht4, hg4⟩
      have own4 := ownsRow_but HO.out hg4 (Nat.lt_succ_self g)
      have hb4 : Below w.heap.size w w4 := hb.grown hg4 (by have := hb.size; omega) (fun k hk => by injection hk with hk; omega)
      have hsz4 : g < w4.heap.size := by have := hg4.size; omega
      have base4 := own_base own4
      have HT4 := Lib.hid ht4
      clear HO hg4 hb hsz ht4
      obtain ⟨i0, hi, hz0, hz1, hz2⟩ := info_parts Tryd.infoByte
      have hq8 : q < wSigns.length := by show q < 8; omega
      go_wp2_with (at_builtin; refine wpList_append_own _ rfl _ _ 35 rfl (g + 1) 5 i0 (.int .u8 0) 1 1 Tryd.underlying35 hi hz0 hz1 hz2 rfl (by decide) _ _ _ rfl (own4.alloc _) ⟨w4.heap.size, 0, none⟩ 1 1 [Bv wSigns[q]] rfl rfl ?c1 ?c2 ?c3 ?c4 ?c5 ?_)
      case c1 =>
        intro j u hu
        rcases j with _ | j
        · simp at hu; subst hu; simp [go_sem]
        · simp at hu
      case c2 => intro u hu; simp at hu; subst hu; rfl
      case c3 => unfold maxLen; omega
      case c4 => omega
      case c5 => simp; omega
      intro v' w5 own5 hg5 _
      have hb5 : Below w.heap.size w w5 := (hb4.alloc hb4.size _).grown hg5 (by have := hb4.size; simp; omega) (fun k hk => by have := base4 k hk; omega)
      have hsz5 : g < w5.heap.size := by have := hg5.size; simp at this; omega
      have HT5 : Hid (TapeOk w5 w.heap.size g ((bs ++ [wSigns[q]]).length + 1)) := Lib.hid (((HT4.out.keep ((Below.refl _ _).alloc (Nat.le_refl _) _)).grown hg5 (fun e => by have := base4 g e; omega) (fun k hk => by have := base4 k hk; omega)).more (by simp))
      have HO5 : Hid (w5.ownsRow (g + 1) 5 1 v' (bs ++ [wSigns[q]]).length ((bs ++ [wSigns[q]]).map Bv)) := Lib.hid (by simpa using own5)
      have hlen5 : r - 1 + (bs ++ [wSigns[q]]).length ≤ 15 := by simp; omega
      clear hg5 own5 own4 base4 hi hz0 hz1 hz2 HT4 hb4 hsz4
      go_wp2
      go_roundw
      case rel => exact ⟨r - 1, _, by go_num, hlen5, HO5, HT5, hb5, hsz5⟩
      case measure => simp [intOf]; omega
    · have hr1 : r ≤ 0 := by omega
      clear hr0
      go_wp2_with fail
      have hbs : bs.length ≤ 15 := by omega
      clear hr hr1
      go_cut [8] (fun v wx => ∃ (L : Nat) (l1 l2 : List UInt8), v = .slice (some ⟨L, 0, none⟩) 3 3 ∧ wx.cell? ⟨L, 0, none⟩ = some (.string ⟨l.toArray⟩) ∧ wx.cell? ⟨L, 1, none⟩ = some (.string ⟨l1.toArray⟩) ∧ wx.cell? ⟨L, 2, none⟩ = some (.string ⟨l2.toArray⟩) ∧ l1.length ≤ 100 ∧ l2.length ≤ 100 ∧ Below w.heap.size w wx)
      case first =>
        have hbd : Below wr.heap.size wr wr.drew := (Below.refl _ _).drew
        have HOd := Lib.hid (ownsRow_below HO.out hbd)
        have HTd := Lib.hid (HT.out.keep hbd)
        have hcv3 := conv_own HOd.out
        have hcw := hb.drew
        have hszd : g < wr.drew.heap.size := hsz
        clear hbd HO HT
        go_region_with (first
          | (go_at_call 14; refine (next_c w.heap.size g _ 30000 _ HTd.out (by omega) (by omega) (by omega)).mono ?_; rintro e w4 ⟨q, hq, rfl, ht4, hg4⟩; have own4 := ownsRow_but HOd.out hg4 (Nat.lt_succ_self g); have hcv4 := conv_own own4; have OWN4 := Lib.hid own4; have hb4 : Below w.heap.size w w4 := hcw.grown hg4 (by have := hcw.size; omega) (fun k hk => by injection hk with hk; omega); have D5 := Lib.hid (fun w => digits_c ((q : Int) - 15000) w (by omega) (by omega)); have hqw := IntWalk.i64_in ((q : Int) - 15000) ⟨by omega, by omega⟩; clear ht4 hg4 own4)
          | (go_at_call 15; refine (D5.out _).mono ?_; rintro e w5 ⟨rfl, hb5⟩; have hcv5 := conv_own (ownsRow_below OWN4.out hb5)))
        all_goals
          go_wp2_with fail
          go_meet
          exact ⟨_, bs, dec ((q : Int) - 15000), rfl, by simp [go_sem], by simp [go_sem], by simp [go_sem], by omega, Nat.le_trans (dec_length _) (by omega), (hb4.trans (hb5.mono hb4.size)).alloc (Nat.le_trans hb4.size hb5.size) _⟩
      case rest =>
        obtain ⟨L, l1, l2, rfl, e0, e1, e2, h1, h2, hbx⟩ := hcut
        have HC : Hid (∀ k, k < 3 → ∃ x : List UInt8, x.length ≤ 140737488351232 ∧ wc.cell? ⟨L, k, none⟩ = some (S x)) := Lib.hid (fun k hk => by
          match k, hk with
          | 0, _ => exact ⟨l, hs, e0⟩
          | 1, _ => exact ⟨l1, by omega, e1⟩
          | 2, _ => exact ⟨l2, by omega, e2⟩)
        clear e0 e1 e2 h1 h2 HO HT hb hsz hbs hs
        go_wp2
        go_loopw [9] (fun i wr => ∃ k : Nat, i = .int .i64 k ∧ k ≤ 3 ∧ Hid (∃ n, wr = wc.drewN n)) (fun i _ => 3 - (intOf i).toNat)
        case atStart => exact ⟨0, rfl, by omega, Lib.hid ⟨0, rfl⟩⟩
        case round =>
          obtain ⟨k, rfl, hk, HW⟩ := hrel
          by_cases hk3 : k < 3
          · obtain ⟨x, hx, hc⟩ := HC.out k hk3
            have hcr : wr.cell? ⟨L, k, none⟩ = some (S x) := by obtain ⟨n, rfl⟩ := HW.out; exact hc
            clear hc
            have N1 := Lib.hid (fun w => Number_c x w (by omega))
            have N2 := Lib.hid (fun w => refNumber_c x w (by omega))
            have M1 := Lib.hid (fun w => Name_q x w (by unfold maxLen; omega))
            have M2 := Lib.hid (fun w => refName_q x w (by unfold maxLen; omega))
            rcases hn : num x with _ | n
            all_goals
              rw [hn] at N1 N2
              simp only [ret2] at N1 N2
              clear hn
              rcases hb : name x with _ | _
              all_goals
                rw [hb] at M1 M2
                clear hb
                go_wp2_with fail
                refine (N1.out _).mono ?_
                rintro e w4 ⟨rfl, rfl⟩
                go_wp2_with fail
                refine (N2.out _).mono ?_
                rintro e w4 ⟨rfl, rfl⟩
                go_wp2_with fail
                go_quiet ((first
                  | (go_at_call 18; exact Calls.quiet_of_same (M1.out _))
                  | (go_at_call 19; exact Calls.quiet_of_same (M2.out _))))
                go_wp2
                go_roundw
                case rel => exact ⟨k + 1, by go_num, by omega, Lib.hid (by obtain ⟨q, hq⟩ := HW.out; exact ⟨_, by rw [hq, World.drewN_drewN]⟩)⟩
                case measure => simp [intOf]; omega
          · go_wp2
            go_ret
            exact ⟨rfl, by obtain ⟨n, hn⟩ := HW.out; rw [hn]; exact below_drewN hbx n⟩
end Go.Proofs.YtngapogkhpnieaaDoor
