/- PlaneSteps of layer 8. -/
import Derived.Test.YtifnmfljlgaeoaaPlMoved
import Derived.Test.YtifnmfljlgaeoaaPlFacts
import Derived.Test.YtifnmfljlgaeoaaPdCpx
import Derived.Deep.RegionHeld3
import Derived.Deep.CutRange
import Derived.Deep.DeepCutAuto
import Derived.BigRegion
import Derived.Laws.StructEq
namespace Go.Proofs.Ytifnmfljlgaeoaa
open Go Go.RowKit Fl

theorem add_cpx {a b c d : Nat} {x y u v : Int} (ha : IsF a x) (hb : IsF b y) (hc : IsF c u) (hd : IsF d v) (h1 : (x + u).natAbs < 9007199254740992) (h2 : (y + v).natAbs < 9007199254740992) : ∃ re im, cSumBits .add .f64 a b c d = some (re, im) ∧ IsF re (x + u) ∧ IsF im (y + v) := by
  obtain ⟨r, e1, k1⟩ := add_isF ha hc h1
  obtain ⟨i, e2, k2⟩ := add_isF hb hd h2
  refine ⟨r, i, ?_, k1, k2⟩
  have f1 : floatBits .add .f64 a c = some r := e1
  have f2 : floatBits .add .f64 b d = some i := e2
  unfold cSumBits
  rw [f1, f2]
  rfl
theorem order_eqn2 {a b : Nat} {x : Int} (h1 : IsF a x) (h2 : IsF b x) : FloatKind.f64.format.order a b = some Ordering.eq := (order_isF h1 h2).trans (by rw [Int.compare_eq_eq.2 rfl])
/-- How far the walk has gone. -/
def farX (l : List BlockD) (k : Nat) : Int := (atW l (k % l.length)).x - (atW l 0).x
def farY (l : List BlockD) (k : Nat) : Int := (atW l (k % l.length)).y - (atW l 0).y
theorem far_zero (l : List BlockD) : farX l 0 = 0 ∧ farY l 0 = 0 := by
  unfold farX farY
  rw [Nat.zero_mod]
  omega
theorem far_end (l : List BlockD) : farX l l.length = 0 ∧ farY l l.length = 0 := by
  unfold farX farY
  rw [Nat.mod_self]
  omega
theorem far_next {l : List BlockD} {k : Nat} (h : k < l.length) : farX l (k + 1) = farX l k + ((atW l ((k + 1) % l.length)).x - (atW l k).x) ∧ farY l (k + 1) = farY l k + ((atW l ((k + 1) % l.length)).y - (atW l k).y) := by
  unfold farX farY
  rw [Nat.mod_eq_of_lt h]
  omega
theorem far_bound {l : List BlockD} (h : ∀ b ∈ l, okB b = true) (k : Nat) : (-19998 ≤ farX l k ∧ farX l k ≤ 19998) ∧ -19998 ≤ farY l k ∧ farY l k ≤ 19998 := by
  have h1 := okB_iff.1 (all_at h (k % l.length))
  have h2 := okB_iff.1 (all_at h 0)
  unfold farX farY
  omega
theorem rev_next {l : List BlockD} {k : Nat} (h : k < l.length) : [l[k]] ++ (l.take k).reverse = (l.take (k + 1)).reverse := by
  rw [List.take_succ_eq_append_getElem h, List.reverse_append]
  rfl
theorem step_of (hSt : DevStep) {a b : BlockD} (ha : okB a = true) (hb : okB b = true) (w1 W : World) (hW : Below w1.heap.size w1 W) : Calls Try.prog 20 #[BV a, BV b] W fun e w' => ∃ re im, e = .returned (.complex .f64 re im) ∧ IsF re (b.x - a.x) ∧ IsF im (b.y - a.y) ∧ Below w1.heap.size w1 w' :=
  (hSt a b W).mono (fun e w' k => by
    have e0 : twoB a b = true := by unfold twoB; rw [ha, hb]; rfl
    simp only [e0, if_true] at k
    obtain ⟨v, rfl, ⟨re, im, rfl, k1, k2⟩, k3⟩ := k
    exact ⟨re, im, rfl, k1, k2, hW.trans (k3.mono hW.size)⟩)
theorem rot_of (hRo : DevRotate) {b r : BlockD} (h : okB b = true) (hn : b.name = []) (q : Int) (hq : -9223372036854775808 ≤ q ∧ q ≤ 9223372036854775807) (hr : rotZ b q = r) (W : World) : Calls Try.prog 21 #[BV b, .int .i64 q] W fun e w' => e = .returned (.tuple #[BV r, .int .i64 0]) ∧ Below W.heap.size W w' := by
  have h1 := hRo b q W (by rw [hn]; simp) hq
  rw [(rotR_ok h q).1, (rotR_ok h q).2, hr] at h1
  exact h1
set_option maxRecDepth 100000 in
set_option maxHeartbeats 16000000 in
theorem planeSteps_c (hA : DevAt) (hSt : DevStep) (hT : DevTurn) (hR : DevArea) (hRo : DevRotate) (C : Option Addr) (k : Nat) (zs : List Int) (n : Int) (w : World) (hz : IntsAt w w.heap.size C zs) (hzl : zs.length ≤ maxLen) (hn : -9223372036854775808 ≤ n ∧ n ≤ 9223372036854775807) :
    Calls Try.prog 6 #[.slice C zs.length k, .int .i64 n] w fun e w' => e = .returned (.bool true) ∧ Below w.heap.size w w' := by
  have CK := Lib.hid (known8_c hA hT hR w)
  have HZ := Lib.hid hz
  have HL := Lib.hid hzl
  have HAr := Lib.hid hR
  have HSt := Lib.hid (fun (a b : BlockD) => step_of hSt (a := a) (b := b))
  have HRo := Lib.hid (fun (b r : BlockD) => rot_of hRo (b := b) (r := r))
  clear hA hT hR hRo hz hzl hSt
  go_enter Try.func6, Try.ntmps6
  go_wp2_with fail
  refine CK.out.mono ?_
  rintro e w1 ⟨rfl, hb1⟩
  have HB1 := Lib.hid hb1
  have CB := Lib.hid (fun m (hm : m ≤ 10) => blocks_c C k m zs w1 ((HZ.out.keep (Nat.le_refl _) hb1).more hb1.size) HL.out hm)
  clear hb1 CK HZ HL
  go_wp2_with fail
  refine (cut_c n 8 w1 (by decide) (by decide) hn.1 hn.2).mono ?_
  rintro e w1' ⟨m, hm, rfl, rfl⟩
  obtain ⟨p, hp⟩ : ∃ p : Nat, p = 1 + m := ⟨_, rfl⟩
  have hw0 : IntKind.i64.wrap (1 + (m : Int)) = (p : Int) := by rw [hp]; rw [show ((1 + m : Nat) : Int) = 1 + (m : Int) by omega]; exact wrap_in (by omega)
  have hp8 : 1 ≤ p ∧ p ≤ 8 := by omega
  have CBm := Lib.hid (CB.out p (by omega))
  clear CB hp hm
  go_wp2_with fail
  refine CBm.out.mono ?_
  rintro e w2 ⟨A, c, l, rfl, hml, hhl, hb2⟩
  have HB2 := Lib.hid (HB1.out.trans (hb2.mono HB1.out.size))
  have HM := Lib.hid hml
  have H2 := Lib.hid hhl
  clear hb2 HB1 CBm hml hhl hw0
  have hok : ∀ b ∈ l, okB b = true := fun b hb => (HM.out.2 b hb).1
  have hl48 : l.length ≤ 48 := by have := HM.out.1; omega
  have HOk := Lib.hid hok
  have HW0 := Lib.hid (okAll_way hok hl48)
  have HW1 := Lib.hid (okAll_way (l := l.reverse) (fun b hb => hok b (List.mem_reverse.1 hb)) (by simpa using hl48))
  have HAs := Lib.hid (area_small hok hl48)
  have HFb := Lib.hid (far_bound hok)
  have hlp : l.length = p := HM.out.1
  clear hok hl48
  have HZ0 : Hid (IsF 0 (farX l 0)) := Lib.hid (by rw [(far_zero l).1]; exact zero_isF)
  have HZ1 : Hid (IsF 0 (farY l 0)) := Lib.hid (by rw [(far_zero l).2]; exact zero_isF)
  have HO0 : Hid (w2.ownsRow w2.heap.size 23 3 (.slice none 0 0) (l.take 0).reverse.length (blockCells (l.take 0).reverse)) := Lib.hid (World.ownsRow_nil _ _ _ _)
  subst hlp
  go_wp2
  go_loopw [6, 7, 8] (fun sv bv iv wr => ∃ (k s t : Nat), sv = .complex .f64 s t ∧ iv = .int .i64 k ∧ k ≤ l.length ∧ Hid (IsF s (farX l k)) ∧ Hid (IsF t (farY l k)) ∧ Hid (wr.ownsRow w2.heap.size 23 3 bv (l.take k).reverse.length (blockCells (l.take k).reverse)) ∧ Hid (Below w2.heap.size w2 wr)) (fun _ _ iv _ => l.length - (intOf iv).toNat)
  case atStart => exact ⟨0, 0, 0, rfl, rfl, Nat.zero_le _, HZ0, HZ1, HO0, Lib.hid (Below.refl _ _)⟩
  case round =>
    clear HZ0 HZ1 HO0
    obtain ⟨k, s, t, rfl, rfl, hk, HX, HY, HO, HW⟩ := hrel
    by_cases hlt : k < l.length
    · obtain ⟨j, hj, hjl⟩ : ∃ j, j = (k + 1) % l.length ∧ j < l.length := ⟨_, rfl, Nat.mod_lt _ (by omega)⟩
      have hrem : ((k : Int) + 1).tmod (l.length : Int) = (j : Int) := by
        rw [Int.tmod_eq_emod_of_nonneg (by omega), hj, Int.natCast_emod]
        rfl
      obtain ⟨b, o, rfl, hbl, hba⟩ := H2.out.block hlt
      obtain ⟨b', o', hE, _, hbb⟩ := H2.out.block hjl
      injection hE with hE
      injection hE with hE1 hE2
      subst hE1 hE2
      have hok1 := HOk.out _ (List.getElem_mem hlt)
      have hok2 := HOk.out _ (List.getElem_mem hjl)
      have hnm := (HM.out.2 _ (List.getElem_mem hlt)).2
      have hN := far_next hlt
      have hF0 := HFb.out k
      have hF1 := HFb.out (k + 1)
      rw [atW_get hlt, ← hj, atW_get hjl] at hN
      have HF : Hid (∀ r i, IsF r (l[j].x - l[k].x) → IsF i (l[j].y - l[k].y) → ∃ re im, cSumBits .add .f64 s t r i = some (re, im) ∧ IsF re (farX l (k + 1)) ∧ IsF im (farY l (k + 1))) := Lib.hid (fun r i k1 k2 => by
        rw [hN.1, hN.2]
        exact add_cpx HX.out HY.out k1 k2 (by omega) (by omega))
      have HRv := Lib.hid (rev_next hlt)
      have CS := Lib.hid (HSt.out _ _ hok1 hok2)
      have C4 := Lib.hid (HRo.out _ _ hok1 hnm 4 (by decide) (rotZ_four _))
      have C3 := Lib.hid (HRo.out _ _ hok1 hnm (-3) (by decide) (rotZ_back _))
      have C1 := Lib.hid (HRo.out _ _ hok1 hnm 1 (by decide) rfl)
      have HK : Hid (∀ W, Below w2.heap.size w2 W → BlockAt W b (o + k * 3) l[k] ∧ BlockAt W b (o + j * 3) l[j]) := Lib.hid (fun W hW => ⟨hba.keep hbl hW, hbb.keep hbl hW⟩)
      have hw0 : IntKind.i64.wrap ((k : Int) + 1) = (k : Int) + 1 := wrap_in (by omega)
      have hne : ¬ ((l.length : Int) = 0) := by omega
      have hnl : ¬ l = [] := fun e => by rw [e] at hlt; simp at hlt
      have hrl : [l[k]].length + (l.take k).reverse.length ≤ 1000000 := by simp; omega
      clear hba hbb hj hok1 hok2 hnm hN hF0 hF1 HX HY
      generalize (l.take k).reverse = rv at *
      generalize rotZ l[k] 1 = rb at *
      generalize l[k] = x at *
      generalize l[j] = y at *
      obtain ⟨⟨a0, a1, a2⟩, ⟨b0, b1, b2⟩⟩ := HK.out wr HW.out
      have CSr := Lib.hid (CS.out wr)
      have HS : Hid (∀ W, Below wr.heap.size wr W → W.cell? ⟨b, o + k * 3, none⟩ = some (Sv x.name) ∧ W.cell? ⟨b, o + k * 3 + 1, none⟩ = some (.int .i64 x.x) ∧ W.cell? ⟨b, o + k * 3 + 2, none⟩ = some (.int .i64 x.y) ∧ W.cell? ⟨b, o + j * 3, none⟩ = some (Sv y.name) ∧ W.cell? ⟨b, o + j * 3 + 1, none⟩ = some (.int .i64 y.x) ∧ W.cell? ⟨b, o + j * 3 + 2, none⟩ = some (.int .i64 y.y)) := Lib.hid (fun W hW => by
        obtain ⟨⟨a0, a1, a2⟩, ⟨b0, b1, b2⟩⟩ := HK.out W (HW.out.trans (hW.mono HW.out.size))
        exact ⟨a0, a1, a2, b0, b1, b2⟩)
      go_wp2_with fail
      go_cut [6] from 26 to 100 (fun v wx => ∃ re im, v = .complex .f64 re im ∧ Hid (IsF re (farX l (k + 1))) ∧ Hid (IsF im (farY l (k + 1))) ∧ Hid (Below wr.heap.size wr wx))
      case first =>
        go_region_held3 (fun W => W.cell? ⟨b, o + k * 3, none⟩ = some (Sv x.name) ∧ W.cell? ⟨b, o + k * 3 + 1, none⟩ = some (.int .i64 x.x) ∧ W.cell? ⟨b, o + k * 3 + 2, none⟩ = some (.int .i64 x.y) ∧ W.cell? ⟨b, o + j * 3, none⟩ = some (Sv y.name) ∧ W.cell? ⟨b, o + j * 3 + 1, none⟩ = some (.int .i64 y.x) ∧ W.cell? ⟨b, o + j * 3 + 2, none⟩ = some (.int .i64 y.y)) (first | exact HS.out _ (by repeat (first | assumption | (with_reducible exact Below.refl _ _) | (with_reducible refine Below.drew ?_)))) (first | (go_at_call 20; with_reducible refine (CSr.out _ (by repeat (first | assumption | (with_reducible exact Below.refl _ _) | (with_reducible refine Below.drew ?_)))).mono ?_; rintro e w3 ⟨r3, i3, rfl, k1, k2, hb3⟩; obtain ⟨re, im, hm3, q1, q2⟩ := HF.out r3 i3 k1 k2; have hop := fun t' W => run_complex_sum (P := Try.prog) W .add (Or.inl rfl) t' .f64 s t r3 i3 re im hm3))
        all_goals
          go_wp2_with fail
          go_meet
          case rel => exact ⟨re, im, rfl, Lib.hid q1, Lib.hid q2, Lib.hid (by repeat (first | assumption | (with_reducible exact Below.refl _ _) | (with_reducible refine Below.drew ?_)))⟩
      case rest =>
        obtain ⟨re, im, rfl, QX, QY, hWc⟩ := hcut
        have HWc := Lib.hid (HW.out.trans (hWc.out.mono HW.out.size))
        have HOc := Lib.hid (ownB_to HO.out fun q _ hq => hWc.out.block q hq)
        have hws : w2.heap.size ≤ wc.heap.size := HWc.out.size
        clear hWc HO HW HS CSr CS HF a0 a1 a2 b0 b1 b2
        obtain ⟨⟨a0, a1, a2⟩, _⟩ := HK.out wc HWc.out
        go_wp2_with (at_builtin; refine app_blocks _ rfl _ _ rfl w2.heap.size _ [x] rfl (own_litB (box_new wc x) hws) _ rv rfl (own_arg (HOc.out.alloc _)) hrl (by simp; omega) ?_)
        intro v' w4 hown hgrow
        have HO4 : Hid (w4.ownsRow w2.heap.size 23 3 v' (l.take (k + 1)).reverse.length (blockCells (l.take (k + 1)).reverse)) := Lib.hid (by rw [← HRv.out]; exact hown)
        have HW4 : Hid (Below w2.heap.size w2 w4) := Lib.hid ((HWc.out.alloc hws _).grown hgrow (by simp; omega) (fun q hq => by simp [Value.ownBlock] at hq; omega))
        clear hown hgrow HOc HWc a0 a1 a2 HRv hrl
        obtain ⟨⟨a0, a1, a2⟩, _⟩ := HK.out _ HW4.out
        go_wp2_with fail
        refine (C4.out _).mono ?_
        rintro e w5 ⟨rfl, hb⟩
        have hW := HW4.out.trans (hb.mono HW4.out.size)
        have HW5 := Lib.hid (hW.trans ((below_newP w5 (.cells #[Sv x.name, Iv x.x, Iv x.y] 23)).mono hW.size))
        have hD := (Below.refl w4.heap.size w4).trans (hb.mono (Below.refl w4.heap.size w4).size)
        have HD5 := Lib.hid (hD.trans ((below_newP w5 (.cells #[Sv x.name, Iv x.x, Iv x.y] 23)).mono hD.size))
        have HN5_5 := Lib.hid (box_new w5 x)
        clear hW hD hb a0 a1 a2 HW4 C4
        obtain ⟨⟨a0, a1, a2⟩, _⟩ := HK.out _ HW5.out
        go_wp2_with fail
        refine (C3.out _).mono ?_
        rintro e w6 ⟨rfl, hb⟩
        have hW := HW5.out.trans (hb.mono HW5.out.size)
        have HW6 := Lib.hid (hW.trans ((below_newP w6 (.cells #[Sv rb.name, Iv rb.x, Iv rb.y] 23)).mono hW.size))
        have hD := HD5.out.trans (hb.mono HD5.out.size)
        have HD6 := Lib.hid (hD.trans ((below_newP w6 (.cells #[Sv rb.name, Iv rb.x, Iv rb.y] 23)).mono hD.size))
        have HN6_6 := Lib.hid (box_new w6 rb)
        have HN5_6 := Lib.hid ((HN5_5.out.keep hb).keep (below_newP w6 (.cells #[Sv rb.name, Iv rb.x, Iv rb.y] 23)))
        clear hW hD hb a0 a1 a2 HW5 C3 HD5 HN5_5
        obtain ⟨⟨a0, a1, a2⟩, _⟩ := HK.out _ HW6.out
        go_wp2_with fail
        refine (C1.out _).mono ?_
        rintro e w7 ⟨rfl, hb⟩
        have hW := HW6.out.trans (hb.mono HW6.out.size)
        have HW7 := Lib.hid (hW.trans ((below_newP w7 (.cells #[Sv rb.name, Iv rb.x, Iv rb.y] 23)).mono hW.size))
        have hD := HD6.out.trans (hb.mono HD6.out.size)
        have HD7 := Lib.hid (hD.trans ((below_newP w7 (.cells #[Sv rb.name, Iv rb.x, Iv rb.y] 23)).mono hD.size))
        have HN7_7 := Lib.hid (box_new w7 rb)
        have HN5_7 := Lib.hid ((HN5_6.out.keep hb).keep (below_newP w7 (.cells #[Sv rb.name, Iv rb.x, Iv rb.y] 23)))
        have HN6_7 := Lib.hid ((HN6_6.out.keep hb).keep (below_newP w7 (.cells #[Sv rb.name, Iv rb.x, Iv rb.y] 23)))
        clear hW hD hb a0 a1 a2 HW6 C1 HD6 HN5_6 HN6_6
        obtain ⟨⟨a0, a1, a2⟩, _⟩ := HK.out _ HW7.out
        have HO7 := Lib.hid (ownB_to HO4.out fun q _ hq => HD7.out.block q hq)
        obtain ⟨p0, p1, p2⟩ := HN5_7.out.cell
        obtain ⟨q0, q1, q2⟩ := HN6_7.out.cell
        obtain ⟨r0, r1, r2⟩ := HN7_7.out.cell
        clear HN5_7 HN6_7 HN7_7 HD7 HO4 HK
        go_wp2_with fail
        go_quiet (fail)
        go_wp2
        go_roundw
        case rel => exact ⟨k + 1, re, im, rfl, by go_num, by omega, QX, QY, HO7, Lib.hid (below_drewN HW7.out _)⟩
        case measure => simp [intOf]; omega
    · obtain rfl : k = l.length := by omega
      have HE := Lib.hid (far_end l)
      have hX := HX.out
      have hY := HY.out
      rw [HE.out.1] at hX
      rw [HE.out.2] at hY
      have o1 := order_eqn2 hX zero_isF
      have o2 := order_eqn2 hY zero_isF
      rw [List.take_length] at HO
      obtain ⟨X, cx, rfl, hXh⟩ := own_blocks HO.out
      have HXh := Lib.hid hXh
      have hHl := H2.out.keep HW.out
      have C5 := Lib.hid (HAr.out A c l wr hHl (by omega))
      have HPr := Lib.hid (poly_rev l)
      have hpb := HAs.out
      rw [HW0.out.2.2] at hpb
      rw [HW0.out.1, HW0.out.2.2] at C5
      have C6 := Lib.hid (fun W hh => HAr.out X cx l.reverse W hh (by simp; omega))
      rw [HW1.out.1, HW1.out.2.2, HPr.out, List.length_reverse] at C6
      have HW9 := Lib.hid (HB2.out.trans (HW.out.mono HB2.out.size))
      clear hX hY hXh hHl HX HY HO HE HAr HW HB2 HPr
      generalize polyZ l = z at *
      have hneg : IntKind.i64.wrap (- -z) = z := by rw [Int.neg_neg]; exact wrap_in (by omega)
      have hneg2 : IntKind.i64.wrap z = z := wrap_in (by omega)
      go_wp2_with fail
      with_reducible refine C5.out.mono ?_
      rintro e w8 ⟨rfl, hb8⟩
      have HX8 := Lib.hid (HXh.out.keep hb8)
      have HW10 := Lib.hid (HW9.out.trans (hb8.mono HW9.out.size))
      clear hb8 HXh HW9 C5
      go_wp2_with fail
      with_reducible refine (C6.out w8 HX8.out).mono ?_
      rintro e w9 ⟨rfl, hb9⟩
      have HW11 := Lib.hid (HW10.out.trans (hb9.mono HW10.out.size))
      clear hb9 HX8 HW10 C6
      go_wp2
      go_ret
      exact ⟨rfl, HW11.out⟩
end Go.Proofs.Ytifnmfljlgaeoaa
