/- PlantPrints returns true, under the contracts of what it calls. -/
import Derived.Test.YtjbhmeeebacnpaaPnClash
import Derived.Test.YtjbhmeeebacnpaaPnBody
import Derived.Test.YtjbhmeeebacnpaaPkClash
import Derived.Test.YtjbhmeeebacnpaaTpArg
namespace Go.Proofs.Ytjbhmeeebacnpaa
open Go Go.RowKit Fl

theorem clashV_form (l : List BodD) : ∃ i k : Int, ∃ z : Bool, clashV l = .tuple #[.int .i64 i, .int .i64 k, .bool z] := by
  unfold clashV
  rcases clashL l 0 with _ | p
  · exact ⟨0, 0, false, rfl⟩
  · exact ⟨p.1, p.2, true, rfl⟩
/-- What a round of PlantPrints keeps. -/
structure PS (X g : Nat) (w : World) (A : Option Addr) (l : List BodD) (T : Nat) (wx : World) : Prop where
  holds : Holds wx A (bodS.cs l)
  tape : TapeOk wx X g T
  below : Below X w wx
  fit : ∀ b ∈ l, FitB b
theorem PS.keep {X g T : Nat} {w wx wy : World} {A : Option Addr} {l : List BodD} (h : PS X g w A l T wx) (hb : Below wx.heap.size wx wy) (hX : X = w.heap.size) : PS X g w A l T wy :=
  ⟨h.holds.keep hb, h.tape.keep hb, h.below.trans (hb.mono (by have := h.below.size; omega)), h.fit⟩
theorem PS.drew {X g T : Nat} {w wx : World} {A : Option Addr} {l : List BodD} (h : PS X g w A l T wx) (hX : X = w.heap.size) : PS X g w A l T wx.drew :=
  h.keep (Below.refl _ _).drew hX
set_option maxRecDepth 100000 in
set_option maxHeartbeats 1500000 in
theorem plantPrints_of (A0 A1 : Option Addr) (c0 c1 : Nat) (raw : List BodD) (zs : List Int) (w : World) (hr : Holds w A0 (bodS.cs raw)) (hz : IntsAt w w.heap.size A1 zs) (hzl : zs.length ≤ maxLen) (hfit : ∀ b ∈ raw, FitB b)
    (hK : ∀ W, Calls Try.prog 7 #[] W fun e w' => e = .returned (.bool true) ∧ Below W.heap.size W w')
    (hC : ∀ (A : Option Addr) (c : Nat) (l : List BodD) (W : World), Holds W A (bodS.cs l) → l.length ≤ 20 → (∀ b ∈ l, FitB b) → Calls Try.prog 16 #[.slice A l.length c] W fun e w' => e = .returned (clashV l) ∧ Below W.heap.size W w')
    (hP : ∀ (b : BodD) (W : World), Calls Try.prog 19 #[BV b] W fun e w' => ∃ u, e = .returned u ∧ w'.ownsRow W.heap.size 3 1 u (fpB b).length ((fpB b).map (fun z => Value.int .i64 z)) ∧ Below W.heap.size W w')
    (hS : ∀ (A1 A2 : Option Addr) (c1 c2 : Nat) (xs : List Int) (W : World), Holds W A1 (xs.map (fun z => Value.int .i64 z)) → Holds W A2 (xs.map (fun z => Value.int .i64 z)) → xs.length ≤ 2 → Calls Try.prog 18 #[.slice A1 xs.length c1, .slice A2 xs.length c2] W fun e w' => e = .returned (.bool true) ∧ ∃ n, w' = W.drewN n) :
    Calls Try.prog 4 #[.slice A0 raw.length c0, .slice A1 zs.length c1] w fun e w' => e = .returned (.bool true) ∧ Below w.heap.size w w' := by
  have CK := Lib.hid (hK w)
  have CC := Lib.hid hC
  have CP := Lib.hid hP
  have CS := Lib.hid hS
  have HR := Lib.hid hr
  have HZ := Lib.hid hz
  have HL := Lib.hid hzl
  have HFt := Lib.hid hfit
  clear hr hz hzl hfit hK hC hP hS
  go_enter Try.func4, Try.ntmps4
  go_wp2_with fail
  refine CK.out.mono ?_
  rintro e w1 ⟨rfl, hb1⟩
  have HT := Lib.hid (tape_new (c := c1) HZ.out (Nat.le_refl _) hb1 HL.out)
  have HB1 : Hid (Below w.heap.size w (w1.alloc (.cells #[.slice A1 zs.length c1, .int .i64 0] 35))) := Lib.hid (hb1.alloc hb1.size _)
  have hgB : w.heap.size ≤ w1.heap.size := hb1.size
  have hsz : w1.heap.size < (w1.alloc (.cells #[.slice A1 zs.length c1, .int .i64 0] 35)).heap.size := by simp
  clear hb1 CK HZ HL
  generalize hX : w.heap.size = X at *
  have HXs := Lib.hid hX.symm
  clear hX
  have HK0 : Hid (PS X w1.heap.size w A0 raw 0 (w1.alloc (.cells #[.slice A1 zs.length c1, .int .i64 0] 35))) := Lib.hid ⟨HR.out.keep (HXs.out ▸ HB1.out), HT.out, HB1.out, HFt.out⟩
  clear HT HB1 HR HFt
  go_wp2_with fail
  generalize w1.alloc (.cells #[.slice A1 zs.length c1, .int .i64 0] 35) = w2 at *
  generalize w1.heap.size = g at *
  go_wp2
  go_loopw [0, 6] (fun v i wr => ∃ (A : Option Addr) (c : Nat) (l : List BodD) (q : Nat), v = .slice A l.length c ∧ i = .int .i64 q ∧ q ≤ 2 ∧ Hid (PS X g w A l (100 * q) wr)) (fun _ i _ => 2 - (intOf i).toNat)
  case atStart => exact ⟨A0, c0, raw, 0, rfl, rfl, by omega, HK0⟩
  case round =>
    clear HK0
    obtain ⟨A, c, l, q, rfl, rfl, hq, HK⟩ := hrel
    have hq3 : q = 0 ∨ q = 1 ∨ q = 2 := by omega
    rcases hq3 with rfl | rfl | rfl
    · have HKt := HK
      clear HK
      have HK : Hid (PS X g w A l (100 * (0 + 1)) wr) := Lib.hid ⟨HKt.out.holds, HKt.out.tape.more (by omega), HKt.out.below, HKt.out.fit⟩
      clear HKt
      by_cases h20 : 20 < l.length
      · have h20i : (20 : Int) < (l.length : Int) := by omega
        go_wp2
        go_roundw
        case rel => exact ⟨A, c, l, 0 + 1, rfl, by go_num, by omega, HK⟩
        case measure => simp [intOf]
      · have h20i : ¬ (20 : Int) < (l.length : Int) := by omega
        have hC1 := fun W h => CC.out A c l W h (by omega) HK.out.fit
        have hC2 := fun W h => refClash_c A c l.length l rfl W h (by omega)
        obtain ⟨i1, k1, z1, hV⟩ := clashV_form l
        rw [hV] at hC1 hC2
        have HC1 := Lib.hid hC1
        have HC2 := Lib.hid hC2
        clear hC1 hC2 hV
        go_wp2_with fail
        refine (HC1.out _ HK.out.holds).mono ?_
        rintro e w5 ⟨rfl, hb5⟩
        have HK5 := Lib.hid (HK.out.keep hb5 HXs.out)
        clear hb5 HK HC1
        go_wp2_with fail
        refine (HC2.out _ HK5.out.holds).mono ?_
        rintro e w6 ⟨rfl, hb6⟩
        have HK6 := Lib.hid (HK5.out.keep hb6 HXs.out)
        clear hb6 HK5 HC2
        have n1 : (i1 != i1) = false := by simp
        have n2 : (k1 != k1) = false := by simp
        have n3 : (z1 != z1) = false := by simp
        go_wp2
        go_loopw [14] (fun v wk => ∃ k : Nat, v = .int .i64 k ∧ k ≤ l.length ∧ Hid (PS X g w A l (100 * (0 + 1)) wk)) (fun v _ => l.length - (intOf v).toNat)
        case atStart => exact ⟨0, rfl, Nat.zero_le _, HK6⟩
        case round =>
          clear HK6
          obtain ⟨k, rfl, hk, HK⟩ := hrel
          by_cases hkt : k < l.length
          · have hkl : (k : Int) < (l.length : Int) := by omega
            obtain ⟨b, o, rfl, _, a1⟩ := StK.holds_at HK.out.holds hkt
            obtain ⟨x0, x1, x2, x3⟩ := bod_cells a1
            have HAt : Hid (∀ W, Holds W (some ⟨b, o, none⟩) (bodS.cs l) → bodS.At W b (o + k * bodS.k) l[k]) := Lib.hid (fun W h => by
              obtain ⟨b', o', he, _, ha⟩ := StK.holds_at h hkt
              injection he with he
              injection he with he1 he2
              subst he1 he2
              exact ha)
            clear a1
            rw [show bodS.k = 4 from rfl] at x0 x1 x2 x3 HAt
            generalize l[k] = f at *
            obtain ⟨fc, fd, fs, ff⟩ := f
            dsimp only at x0 x1 x2 x3
            go_wp2_with fail
            go_region_with (first | (go_at_call 19; refine (CP.out ⟨fc, fd, fs, ff⟩ _).mono ?_; rintro e w7 ⟨u7, rfl, ho7, hb7⟩; obtain ⟨Ap, cp, rfl⟩ := own_sliceC ho7; have HOP := Lib.hid (ownsRow_holds ho7); have HK7 := Lib.hid ((HK.out.drew HXs.out).keep hb7 HXs.out); obtain ⟨x0, x1, x2, x3⟩ := bod_cells (HAt.out _ HK7.out.holds); clear ho7 hb7 HK) | (go_at_call 20; refine (refFp_c ⟨fc, fd, fs, ff⟩ _).mono ?_; rintro e w8 ⟨u8, rfl, ho8, hb8⟩; obtain ⟨Aq, cq, rfl⟩ := own_sliceC ho8; have HOQ := Lib.hid (ownsRow_holds ho8); have HOP8 := Lib.hid (HOP.out.keep hb8); have HK8 := Lib.hid (HK7.out.keep hb8 HXs.out); clear ho8 hb8 HK7 HOP) | (go_at_call 18; refine (CS.out _ _ _ _ (fpB ⟨fc, fd, fs, ff⟩) _ HOP8.out HOQ.out (fpB_len ⟨fc, fd, fs, ff⟩)).mono ?_; rintro e w9 ⟨rfl, m9, rfl⟩; have HK9 := Lib.hid (HK8.out.keep (below_drewN (Below.refl _ _) m9) HXs.out)))
            all_goals (go_wp2; go_roundw)
            all_goals (first | (simp [intOf]; omega) | exact ⟨k + 1, by go_num, by omega, HK9⟩)
          · go_wp2
            go_roundw
            case rel => exact ⟨A, c, l, 0 + 1, rfl, by go_num, by omega, HK⟩
            case measure => simp [intOf]
    · have hgw : g < wr.heap.size := (by obtain ⟨_, _, _, _, _, h1, _⟩ := HK.out.tape; exact block_lt h1)
      have hXg : X ≤ g := by obtain ⟨_, _, _, _, _, _, _, _, h, _⟩ := HK.out.tape; exact h
      go_wp2_with fail
      refine (next_c X g _ 6 wr HK.out.tape (by omega) (by omega) (by omega)).mono ?_
      rintro e w3 ⟨r, hr6, rfl, ht3, hg3⟩
      have HT3 : Hid (TapeOk w3 X g (101 + 5 * ([] : List BodD).length)) := Lib.hid (ht3.more (by simp))
      have HB3 : Hid (Below X w w3) := Lib.hid (HK.out.below.grown hg3 (by omega) (fun k hk => by injection hk with hk; omega))
      have hg3s : g < w3.heap.size := Nat.lt_of_lt_of_le hgw hg3.size
      clear ht3 hg3 HK hgw
      go_wp2
      go_loopw [0, 7] (fun v i ws => ∃ (l2 : List BodD) (k : Nat), i = .int .i64 k ∧ l2.length + k ≤ 5 ∧ Hid (bodS.Own ws (g + 1) v l2) ∧ Hid (TapeOk ws X g (101 + 5 * l2.length)) ∧ Hid (Below X w ws) ∧ g < ws.heap.size ∧ Hid (∀ b ∈ l2, FitB b)) (fun _ i _ => (intOf i).toNat)
      case atStart => exact ⟨[], r, rfl, by simp; omega, Lib.hid (StK.Own.nil _ _ _), HT3, HB3, hg3s, Lib.hid (fun _ h => by cases h)⟩
      case round =>
        clear HT3 HB3 hg3s
        obtain ⟨lx, k, rfl, hlk, HO, HT, HB, hgs, HFx⟩ := hrel
        obtain ⟨Ax, cx, rfl, hcx⟩ := HO.out.form
        rcases k with _ | k
        · have HK : Hid (PS X g w Ax lx (100 * (1 + 1)) wr) := Lib.hid ⟨ownsRow_holds HO.out, HT.out.more (by omega), HB.out, HFx.out⟩
          clear HO HT HB HFx
          rename_i Ao co lo _ _
          have HLx := Lib.hid hlk
          generalize Ax = A at *
          generalize cx = c at *
          generalize lx = l at *
          by_cases h20 : 20 < l.length
          · have h20i : (20 : Int) < (l.length : Int) := by omega
            go_wp2
            go_roundw
            case rel => exact ⟨A, c, l, 1 + 1, rfl, by go_num, by omega, HK⟩
            case measure => simp [intOf]
          · have h20i : ¬ (20 : Int) < (l.length : Int) := by omega
            have hC1 := fun W h => CC.out A c l W h (by omega) HK.out.fit
            have hC2 := fun W h => refClash_c A c l.length l rfl W h (by omega)
            obtain ⟨i1, k1, z1, hV⟩ := clashV_form l
            rw [hV] at hC1 hC2
            have HC1 := Lib.hid hC1
            have HC2 := Lib.hid hC2
            clear hC1 hC2 hV
            go_wp2_with fail
            refine (HC1.out _ HK.out.holds).mono ?_
            rintro e w5 ⟨rfl, hb5⟩
            have HK5 := Lib.hid (HK.out.keep hb5 HXs.out)
            clear hb5 HK HC1
            go_wp2_with fail
            refine (HC2.out _ HK5.out.holds).mono ?_
            rintro e w6 ⟨rfl, hb6⟩
            have HK6 := Lib.hid (HK5.out.keep hb6 HXs.out)
            clear hb6 HK5 HC2
            have n1 : (i1 != i1) = false := by simp
            have n2 : (k1 != k1) = false := by simp
            have n3 : (z1 != z1) = false := by simp
            go_wp2
            go_loopw [14] (fun v wk => ∃ k : Nat, v = .int .i64 k ∧ k ≤ l.length ∧ Hid (PS X g w A l (100 * (1 + 1)) wk)) (fun v _ => l.length - (intOf v).toNat)
            case atStart => exact ⟨0, rfl, Nat.zero_le _, HK6⟩
            case round =>
              clear HK6
              obtain ⟨k, rfl, hk, HK⟩ := hrel
              by_cases hkt : k < l.length
              · have hkl : (k : Int) < (l.length : Int) := by omega
                obtain ⟨b, o, rfl, _, a1⟩ := StK.holds_at HK.out.holds hkt
                obtain ⟨x0, x1, x2, x3⟩ := bod_cells a1
                have HAt : Hid (∀ W, Holds W (some ⟨b, o, none⟩) (bodS.cs l) → bodS.At W b (o + k * bodS.k) l[k]) := Lib.hid (fun W h => by
                  obtain ⟨b', o', he, _, ha⟩ := StK.holds_at h hkt
                  injection he with he
                  injection he with he1 he2
                  subst he1 he2
                  exact ha)
                clear a1
                rw [show bodS.k = 4 from rfl] at x0 x1 x2 x3 HAt
                generalize l[k] = f at *
                obtain ⟨fc, fd, fs, ff⟩ := f
                dsimp only at x0 x1 x2 x3
                go_wp2_with fail
                go_region_with (first | (go_at_call 19; refine (CP.out ⟨fc, fd, fs, ff⟩ _).mono ?_; rintro e w7 ⟨u7, rfl, ho7, hb7⟩; obtain ⟨Ap, cp, rfl⟩ := own_sliceC ho7; have HOP := Lib.hid (ownsRow_holds ho7); have HK7 := Lib.hid ((HK.out.drew HXs.out).keep hb7 HXs.out); obtain ⟨x0, x1, x2, x3⟩ := bod_cells (HAt.out _ HK7.out.holds); clear ho7 hb7 HK) | (go_at_call 20; refine (refFp_c ⟨fc, fd, fs, ff⟩ _).mono ?_; rintro e w8 ⟨u8, rfl, ho8, hb8⟩; obtain ⟨Aq, cq, rfl⟩ := own_sliceC ho8; have HOQ := Lib.hid (ownsRow_holds ho8); have HOP8 := Lib.hid (HOP.out.keep hb8); have HK8 := Lib.hid (HK7.out.keep hb8 HXs.out); clear ho8 hb8 HK7 HOP) | (go_at_call 18; refine (CS.out _ _ _ _ (fpB ⟨fc, fd, fs, ff⟩) _ HOP8.out HOQ.out (fpB_len ⟨fc, fd, fs, ff⟩)).mono ?_; rintro e w9 ⟨rfl, m9, rfl⟩; have HK9 := Lib.hid (HK8.out.keep (below_drewN (Below.refl _ _) m9) HXs.out)))
                all_goals (go_wp2; go_roundw)
                all_goals (first | (simp [intOf]; omega) | exact ⟨k + 1, by go_num, by omega, HK9⟩)
              · go_wp2
                go_roundw
                case rel => exact ⟨A, c, l, 1 + 1, rfl, by go_num, by omega, HK⟩
                case measure => simp [intOf]
        · have hk0 : (0 : Int) < ((k + 1 : Nat) : Int) := by omega
          have hwk : IntKind.i64.wrap (((k + 1 : Nat) : Int) - 1) = (k : Int) := by rw [IntWalk.i64_in _ (by omega)]; omega
          go_wp2_with fail
          refine (body_c X g _ 9 wr HT.out (by omega) hgs (by omega) (by omega)).mono ?_
          rintro e w5 ⟨q5, rfl, ⟨m1, m2, m3, m4⟩, ht5, hg5⟩
          have HF5 : Hid (∀ b ∈ lx ++ [q5], FitB b) := Lib.hid (fun b hb => by
            rcases List.mem_append.1 hb with hb | hb
            · exact HFx.out b hb
            · rw [List.mem_singleton] at hb
              subst hb
              exact ⟨WalkArith.wf_i64 (by omega), WalkArith.wf_i64 (by omega)⟩)
          clear m1 m2 m3 m4 HFx
          have HT5 := Lib.hid (ht5.keep (below_newB w5 (.cells (BC q5) 40)))
          have HB5 := Lib.hid ((HB.out.grown hg5 (by omega) (fun k hk => by injection hk with hk; omega)).alloc (by have := hg5.size; omega) (.cells (BC q5) 40))
          have HO5 := Lib.hid (StK.Own.keep (HO.out.far hg5 (by omega)) (below_newB w5 (.cells (BC q5) 40)))
          have HF : Hid (bodS.Arg (w5.alloc (.cells (BC q5) 40)) (.slice (some ⟨w5.heap.size, 0, none⟩) 1 1) [q5]) := Lib.hid (StK.Arg.one (StK.At.new rfl rfl) 1)
          have hs5 : g + 1 ≤ (w5.alloc (.cells (BC q5) 40)).heap.size := by have := hg5.size; simp; omega
          clear ht5 hg5 HO HT HB
          go_wp2_with (at_builtin; refine StK.app_more (S := bodS) _ rfl _ _ (by rfl) (g + 1) _ lx (by rfl) HO5.out _ [q5] (by rfl) HF.out (by simp; omega) hs5 ?_)
          intro v6 w6 hO6 hg6
          have HO6 := Lib.hid hO6
          have hgb := HO5.out.block
          have HT6 : Hid (TapeOk w6 X g (101 + 5 * (lx ++ [q5]).length)) := Lib.hid ((HT5.out.grown hg6 (fun e => by have := hgb g e; omega) (fun q hq => by have := hgb q hq; omega)).more (by simp; omega))
          have HB6 : Hid (Below X w w6) := Lib.hid (HB5.out.grown hg6 (by omega) (fun q hq => by have := hgb q hq; omega))
          have hs6 : g < w6.heap.size := Nat.lt_of_lt_of_le hs5 hg6.size
          clear hO6 hg6 hgb HO5 HT5 HB5 HF
          go_wp2
          go_roundw
          case rel => exact ⟨lx ++ [q5], k, by first | rfl | (rw [hwk]) | go_num, by simp; omega, HO6, HT6, HB6, hs6, HF5⟩
          case measure => simp [intOf]
    · have HB := Lib.hid HK.out.below
      clear HK
      go_wp2
      go_ret
      exact ⟨rfl, HXs.out ▸ HB.out⟩
end Go.Proofs.Ytjbhmeeebacnpaa
