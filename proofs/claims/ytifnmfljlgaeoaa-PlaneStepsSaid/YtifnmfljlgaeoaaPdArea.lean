/- Contract of plane's Area; all contracts of plane. -/
import Derived.Test.YtifnmfljlgaeoaaPdWay
import Derived.Test.YtifnmfljlgaeoaaPdMove
namespace Go.Proofs.Ytifnmfljlgaeoaa
open Go Go.RowKit Fl

theorem area_few (l : List BlockD) (h : l.length < 3) : areaK l l.length = 0 := by
  match l, h with
  | [], _ => rfl
  | [a], _ =>
    show areaK [a] (0 + 1) = 0
    have e : (0 + 1) % [a].length = 0 := by simp
    rw [areaK_succ, e]
    show areaK [a] 0 + crossZ a a = 0
    rw [cross_self]
    rfl
  | [a, b], _ =>
    show areaK [a, b] (0 + 1 + 1) = 0
    have e : (0 + 1) % [a, b].length = 1 := by simp
    have f : (0 + 1 + 1) % [a, b].length = 0 := by simp
    rw [areaK_succ, areaK_succ, e, f]
    show areaK [a, b] 0 + crossZ a b + crossZ b a = 0
    rw [cross_anti b a]
    have : areaK [a, b] 0 = 0 := rfl
    omega
  | a :: b :: c :: l, h => simp at h; omega
theorem area_all (l : List BlockD) : areaZ l = areaK l l.length := by
  unfold areaZ
  split
  · rename_i h; exact (area_few l h).symm
  · rfl
/-- The next summand: the sum is exact. -/
theorem area_next {x y : BlockD} (hx : okB x = true) (hy : okB y = true) {s r1 i1 r2 i2 : Nat} {t : Int} (ht : IsF s t) (bt : -10000000000000 ≤ t ∧ t ≤ 10000000000000) (k1 : IsF r1 x.x) (k2 : IsF i1 x.y) (k3 : IsF r2 y.x) (k4 : IsF i2 y.y) :
    ∃ p q z, cMulBits r1 (Op.negFloat .f64 i1) r2 i2 = some (p, q) ∧ floatBits .add .f64 s q = some z ∧ IsF z (t + crossZ x y) := by
  have ka := okB_iff.1 hx
  have kb := okB_iff.1 hy
  have hc := cross_bound hx hy
  obtain ⟨p, q, e1, _, e2⟩ := prodD k1 k2 k3 k4 (by omega) (by omega) (by omega) (by omega)
  have e3 : IsF q (crossZ x y) := e2
  obtain ⟨z, e4, e5⟩ := add_c ht e3 (by omega)
  exact ⟨p, q, z, e1, e4, e5⟩
set_option maxRecDepth 100000 in
set_option maxHeartbeats 16000000 in
theorem devArea : DevArea := fun A c l w hh hl => by
  have CA := Lib.hid (devCheck_c A c l w hh hl)
  rcases wayE_cases l with ⟨h1, h2⟩ | ⟨h1, h2, h3⟩ | ⟨h1, h2, h3⟩
  · have e1 : areaR l = 0 := by unfold areaR; rw [if_neg (by rw [h2]; decide)]
    rw [h2] at CA ⊢
    rw [e1]
    clear h2 hh e1
    go_enter Try.func15, Try.ntmps15
    go_wp2_with fail
    refine CA.out.mono ?_
    rintro e w1 ⟨rfl, hb1⟩
    have HB1 := Lib.hid hb1
    clear hb1 CA
    go_wp2
    go_ret2
    exact ⟨rfl, HB1.out⟩
  · have e1 : areaR l = 0 := by unfold areaR; rw [if_neg (by rw [h3]; decide)]
    rw [h3] at CA ⊢
    rw [e1]
    clear h3 hh h2 e1
    go_enter Try.func15, Try.ntmps15
    go_wp2_with fail
    refine CA.out.mono ?_
    rintro e w1 ⟨rfl, hb1⟩
    have HB1 := Lib.hid hb1
    clear hb1 CA
    go_wp2
    go_ret2
    exact ⟨rfl, HB1.out⟩
  · have e1 : areaR l = areaK l l.length := by unfold areaR; rw [if_pos h3]; exact area_all l
    have hok := allB_iff.1 h2
    have HOk := Lib.hid hok
    have HBd := Lib.hid (area_bound hok)
    have HH := Lib.hid hh
    rw [h3] at CA ⊢
    rw [e1]
    clear h3 hh h2 e1 hok
    go_enter Try.func15, Try.ntmps15
    go_wp2_with fail
    refine CA.out.mono ?_
    rintro e w1 ⟨rfl, hb1⟩
    have HB1 := Lib.hid hb1
    clear hb1 CA
    have HZ : Hid (IsF 0 (areaK l 0)) := Lib.hid zero_isF
    go_wp2
    go_loopw [5, 16] (fun sv kv wr => ∃ (k s : Nat), sv = .float .f64 s ∧ kv = .int .i64 k ∧ k ≤ l.length ∧ Hid (IsF s (areaK l k)) ∧ Hid (Below w.heap.size w wr)) (fun _ kv _ => l.length - (intOf kv).toNat)
    case atStart => exact ⟨0, 0, rfl, rfl, Nat.zero_le _, HZ, HB1⟩
    case round =>
      clear HB1 HZ
      obtain ⟨k, s, rfl, rfl, hk, HI, HW⟩ := hrel
      by_cases hlt : k < l.length
      · obtain ⟨j, hj, hjl⟩ : ∃ j, j = (k + 1) % l.length ∧ j < l.length := ⟨_, rfl, Nat.mod_lt _ (by omega)⟩
        have hrem : ((k : Int) + 1).tmod (l.length : Int) = (j : Int) := by
          rw [Int.tmod_eq_emod_of_nonneg (by omega), hj, Int.natCast_emod]
          rfl
        obtain ⟨b, o, rfl, hbl, hba⟩ := HH.out.block hlt
        obtain ⟨b', o', hE, _, hbb⟩ := HH.out.block hjl
        injection hE with hE
        injection hE with hE1 hE2
        subst hE1 hE2
        have hbw : b < wr.heap.size := Nat.lt_of_lt_of_le hbl HW.out.size
        obtain ⟨a0, a1, a2⟩ := hba.keep hbl HW.out
        have hbb2 := hbb.keep hbl HW.out
        obtain ⟨b0, b1, b2⟩ := hbb2
        have b0' : ∀ ob, (wr.alloc ob).cell? ⟨b, o + j * 3, none⟩ = some (Sv l[j].name) := fun ob => alloc_cellsP b0 ob
        have b1' : ∀ ob, (wr.alloc ob).cell? ⟨b, o + j * 3 + 1, none⟩ = some (Iv l[j].x) := fun ob => alloc_cellsP b1 ob
        have b2' : ∀ ob, (wr.alloc ob).cell? ⟨b, o + j * 3 + 2, none⟩ = some (Iv l[j].y) := fun ob => alloc_cellsP b2 ob
        have hw0 : IntKind.i64.wrap ((k : Int) + 1) = (k : Int) + 1 := wrap_in (by omega)
        have hne : ¬ ((l.length : Int) = 0) := by omega
        have HS := Lib.hid (areaK_succ l k)
        have hB0 := HBd.out k
        have hok1 := HOk.out _ (List.getElem_mem hlt)
        have hok2 := HOk.out _ (List.getElem_mem hjl)
        rw [atW_get hlt, ← hj, atW_get hjl] at HS
        have HF := Lib.hid (fun (r1 i1 r2 i2 : Nat) k1 k2 k3 k4 => area_next hok1 hok2 (r1 := r1) (i1 := i1) (r2 := r2) (i2 := i2) HI.out (by omega) k1 k2 k3 k4)
        have CA1 := Lib.hid (at_from hok1)
        have CB1 := Lib.hid (at_from hok2)
        have HT := Lib.hid (two_new wr l[k] l[j])
        have hnl : ¬ l = [] := fun e => by rw [e] at hlt; simp at hlt
        clear hba hbb hj hok1 hok2 hB0
        generalize l[k] = x at *
        generalize l[j] = y at *
        generalize areaK l k = t at *
        go_upto_region 9 with fail
        obtain ⟨wy, hwy⟩ : ∃ wy, (wr.alloc (.cells #[Sv x.name, Iv x.x, Iv x.y] 23)).alloc (.cells #[Sv y.name, Iv y.x, Iv y.y] 23) = wy := ⟨_, rfl⟩
        have hT := HT.out
        rw [hwy] at hT
        have HK := Lib.hid (two_keep hT.1 hT.2.1)
        have HWy := Lib.hid (HW.out.trans (hT.2.2.mono HW.out.size))
        have CA2 := Lib.hid (CA1.out wy)
        have CB2 := Lib.hid (CB1.out wy)
        have hk0 := HK.out wy (Below.refl _ _)
        unfold TwoAt at hk0
        clear a0 a1 a2 b0' b1' b2' hT HT CA1 CB1 HW
        obtain ⟨a0, a1, a2, b0, b1, b2⟩ := hk0
        simp only [hwy]
        clear hwy
        go_region_law (go_simp; first | (go_at_call 35; have CC := conj_c r1 i1; with_reducible refine (CC _).mono ?_; rintro e w4 ⟨rfl, rfl⟩) | (go_at_call 23; first | (with_reducible refine (CA2.out _ (by repeat (first | assumption | (with_reducible exact Below.refl _ _) | (with_reducible refine Below.drew ?_)))).mono ?_; rintro e w2 ⟨r1, i1, rfl, k1, k2, hb2⟩; have hk2 := HK.out w2 hb2; unfold TwoAt at hk2; obtain ⟨x0, x1, x2, y0, y1, y2⟩ := hk2) | (with_reducible refine (CB2.out _ (by repeat (first | assumption | (with_reducible exact Below.refl _ _) | (with_reducible refine Below.drew ?_)))).mono ?_; rintro e w3 ⟨r2, i2, rfl, m1, m2, hb3⟩; obtain ⟨p, q, z, hm, ha, hz⟩ := HF.out r1 i1 r2 i2 k1 k2 m1 m2; have hmul := fun (t : TypeId) (W : World) => run_complex_mul (P := Try.prog) W t r1 (Op.negFloat .f64 i1) r2 i2 p q hm; have hadd := fun (t : TypeId) (W : World) => run_float_arith (P := Try.prog) W .add t .f64 s q z ha)))
        all_goals
          have HZ : Hid (IsF z (areaK l (k + 1))) := Lib.hid (by rw [HS.out]; exact hz)
          have HW3 : Hid (Below w.heap.size w w3) := Lib.hid (HWy.out.trans (hb3.mono HWy.out.size))
          clear hb3 hz hm ha k1 k2 m1 m2 HF HK CA2 CB2 HWy
          go_wp2
          go_roundw
          case rel => exact ⟨k + 1, z, rfl, by go_num, by omega, HZ, HW3⟩
          case measure => simp [intOf]; omega
      · obtain rfl : k = l.length := by omega
        have hB0 := HBd.out l.length
        have hcv := Try.to_int HI.out (by omega)
        clear hB0
        go_wp2
        go_ret2
        exact ⟨rfl, HW.out⟩
theorem devTurns : DevTurns := fun A c l w hh hl => (devTurns_c A c l w hh hl).mono (fun e w' h => by
  obtain ⟨u, rfl, ho, hb⟩ := h
  obtain ⟨X, cx, rfl, hx⟩ := own_ints ho
  exact ⟨X, cx, rfl, hx, hb⟩)
end Go.Proofs.Ytifnmfljlgaeoaa
