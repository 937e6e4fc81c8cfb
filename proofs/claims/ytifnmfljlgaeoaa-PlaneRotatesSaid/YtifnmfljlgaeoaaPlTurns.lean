/- PlaneTurns returns true, if plane's functions keep what PlBase asks. -/
import Derived.Test.YtifnmfljlgaeoaaPlKnown
import Derived.Test.YtifnmfljlgaeoaaPlFloat
import Derived.Deep.RegionLaw
import Derived.Deep.CutRange
import Derived.Deep.DeepCutAuto
namespace Go.Proofs.Ytifnmfljlgaeoaa
open Go Go.RowKit Fl

theorem sq_zero {x y : Int} (h : x * x + y * y = 0) : x = 0 ∧ y = 0 := by
  have h1 : 0 ≤ x * x := by
    rcases Int.le_total 0 x with h | h
    · exact Int.mul_nonneg h h
    · exact Int.mul_nonneg_of_nonpos_of_nonpos h h
  have h2 : 0 ≤ y * y := by
    rcases Int.le_total 0 y with h | h
    · exact Int.mul_nonneg h h
    · exact Int.mul_nonneg_of_nonpos_of_nonpos h h
  constructor
  · rcases Int.mul_eq_zero.1 (show x * x = 0 by omega) with h | h <;> exact h
  · rcases Int.mul_eq_zero.1 (show y * y = 0 by omega) with h | h <;> exact h
theorem turnOf_range (re im : Int) : 0 ≤ turnOf re im ∧ turnOf re im ≤ 4 := by
  unfold turnOf
  split
  · omega
  · split
    · omega
    · split
      · omega
      · split <;> omega
theorem turnOf_zero (re im : Int) : turnOf re im = 0 ↔ re = 0 ∧ im = 0 := by
  unfold turnOf
  split
  · omega
  · split
    · omega
    · split
      · omega
      · split <;> omega
theorem turn_zero (a b c : BlockD) : turnZ a b c = 0 ↔ (a.x = b.x ∧ a.y = b.y) ∨ (b.x = c.x ∧ b.y = c.y) := by
  unfold turnZ
  rw [turnOf_zero]
  unfold reZ imZ
  generalize hx : b.x - a.x = x
  generalize hy : b.y - a.y = y
  generalize hu : c.x - b.x = u
  generalize hv : c.y - b.y = v
  constructor
  · rintro ⟨h1, h2⟩
    have h3 : (u * u + v * v) * (x * x + y * y) = (u * x + v * y) * (u * x + v * y) + (v * x - u * y) * (v * x - u * y) := by grind
    rw [h1, h2] at h3
    rcases Int.mul_eq_zero.1 (show (u * u + v * v) * (x * x + y * y) = 0 by rw [h3]; rfl) with h | h
    · have := sq_zero h
      right; omega
    · have := sq_zero h
      left; omega
  · rintro (⟨h1, h2⟩ | ⟨h1, h2⟩)
    · have e1 : x = 0 := by omega
      have e2 : y = 0 := by omega
      rw [e1, e2]
      simp
    · have e1 : u = 0 := by omega
      have e2 : v = 0 := by omega
      rw [e1, e2]
      simp
set_option maxRecDepth 100000 in
set_option maxHeartbeats 8000000 in
theorem planeTurns_c (hA : DevAt) (hT : DevTurn) (hR : DevArea) (C : Option Addr) (k : Nat) (zs : List Int) (w : World) (hz : IntsAt w w.heap.size C zs) (hzl : zs.length ≤ maxLen) :
    Calls Try.prog 7 #[.slice C zs.length k] w fun e w' => e = .returned (.bool true) ∧ Below w.heap.size w w' := by
  have CK := Lib.hid (known8_c hA hT hR w)
  have HZ := Lib.hid hz
  have HL := Lib.hid hzl
  have HT := Lib.hid hT
  clear hA hT hR hz hzl
  go_enter Try.func7, Try.ntmps7
  go_wp2_with fail
  refine CK.out.mono ?_
  rintro e w1 ⟨rfl, hb1⟩
  have HB1 := Lib.hid hb1
  have CB := Lib.hid (blocks_c C k 3 zs w1 ((HZ.out.keep (Nat.le_refl _) hb1).more hb1.size) HL.out (by decide))
  clear hb1 CK HZ HL
  go_wp2_with fail
  refine CB.out.mono ?_
  rintro e w2 ⟨A, c, l, rfl, hml, hhl, hb2⟩
  obtain ⟨m0, m1, m2, rfl⟩ : ∃ a b c, l = [a, b, c] := by
    match l, hml.1 with
    | [a, b, c], _ => exact ⟨a, b, c, rfl⟩
  have k0 := (hml.2 m0 (by simp)).1
  have k1 := (hml.2 m1 (by simp)).1
  have k2 := (hml.2 m2 (by simp)).1
  have HH := Lib.hid hhl
  have HB2 := Lib.hid (HB1.out.trans (hb2.mono HB1.out.size))
  have C1 := Lib.hid (fun W => HT.out m0 m1 m2 W)
  have C2 := Lib.hid (fun W => HT.out m2 m1 m0 W)
  have e1 : turnR m0 m1 m2 = turnZ m0 m1 m2 ∧ turnE m0 m1 m2 = 0 := by unfold turnR turnE threeB; rw [k0, k1, k2]; exact ⟨rfl, rfl⟩
  have e2 : turnR m2 m1 m0 = swapT (turnZ m0 m1 m2) ∧ turnE m2 m1 m0 = 0 := by unfold turnR turnE threeB; rw [k0, k1, k2, turn_back]; exact ⟨rfl, rfl⟩
  rw [e1.1, e1.2] at C1
  rw [e2.1, e2.2] at C2
  have HZr := Lib.hid (turn_zero m0 m1 m2)
  have HRg := Lib.hid (turnOf_range (reZ m0 m1 m2) (imZ m0 m1 m2))
  have HTZ : Hid (turnZ m0 m1 m2 = turnOf (reZ m0 m1 m2) (imZ m0 m1 m2)) := Lib.hid rfl
  rw [← HTZ.out] at HRg
  clear hb2 HB1 HT CB hml hhl e1 e2 k0 k1 k2 HTZ
  generalize turnZ m0 m1 m2 = tz at *
  obtain ⟨b, o, rfl, hbl, h0⟩ := HH.out.block (k := 0) (by simp)
  obtain ⟨b', o', hE, _, h1⟩ := HH.out.block (k := 1) (by simp)
  injection hE with hE
  injection hE with hE1 hE2
  subst hE1 hE2
  obtain ⟨b', o', hE, _, h2⟩ := HH.out.block (k := 2) (by simp)
  injection hE with hE
  injection hE with hE1 hE2
  subst hE1 hE2
  simp only [List.getElem_cons_zero, List.getElem_cons_succ, Nat.zero_mul, Nat.one_mul, Nat.add_zero, Nat.reduceMul] at h0 h1 h2
  have H0 := Lib.hid h0
  have H1 := Lib.hid h1
  have H2 := Lib.hid h2
  clear h0 h1 h2 HH
  obtain ⟨a0, a1, a2⟩ := H0.out
  obtain ⟨b0, b1, b2⟩ := H1.out
  obtain ⟨c0, c1, c2⟩ := H2.out
  go_wp2_with fail
  go_cut [4, 5] (fun p q wx => p = .int .i64 tz ∧ q = .int .i64 0 ∧ Hid (Below w2.heap.size w2 wx))
  case first =>
    go_region_law (go_simp; go_at_call 22; refine (C1.out _).mono ?_; rintro e w9 ⟨rfl, hb9⟩)
    all_goals
      go_wp2_with fail
      go_meet
      case rel => exact ⟨rfl, rfl, Lib.hid (((Below.refl w2.heap.size w2).drew).trans hb9)⟩
  case rest =>
    obtain ⟨rfl, rfl, HW⟩ := hcut
    have hk0 := H0.out.keep hbl HW.out
    have hk1 := H1.out.keep hbl HW.out
    have hk2 := H2.out.keep hbl HW.out
    have HWb := Lib.hid HW.out.size
    clear a0 a1 a2 b0 b1 b2 c0 c1 c2 C1
    obtain ⟨a0, a1, a2⟩ := hk0
    obtain ⟨b0, b1, b2⟩ := hk1
    obtain ⟨c0, c1, c2⟩ := hk2
    go_wp2_with fail
    go_cut [6, 7] (fun p q wx => p = .int .i64 (swapT tz) ∧ q = .int .i64 0 ∧ Hid (Below w2.heap.size w2 wx))
    case first =>
      go_region_law (go_simp; go_at_call 22; refine (C2.out _).mono ?_; rintro e w9 ⟨rfl, hb9⟩)
      all_goals
        go_wp2_with fail
        go_meet
        case rel => exact ⟨rfl, rfl, Lib.hid (HW.out.trans ((((Below.refl _ _).drew).trans hb9).mono HWb.out))⟩
    case rest =>
      obtain ⟨rfl, rfl, HV⟩ := hcut
      have hk0 := H0.out.keep hbl HV.out
      have hk1 := H1.out.keep hbl HV.out
      have hk2 := H2.out.keep hbl HV.out
      have HVB := Lib.hid (HB2.out.trans (HV.out.mono HB2.out.size))
      clear a0 a1 a2 b0 b1 b2 c0 c1 c2 C2 HW HV HWb
      obtain ⟨a0, a1, a2⟩ := hk0
      obtain ⟨b0, b1, b2⟩ := hk1
      obtain ⟨c0, c1, c2⟩ := hk2
      have hrg := HRg.out
      have hsw : (∃ z : Int, (tz = 1 ∨ tz = 2) ∧ z = 3 - tz ∧ swapT tz = z ∧ ((tz == 1) = true ∨ (tz == 1) = false ∧ (tz == 2) = true)) ∨ (swapT tz = tz ∧ (tz == 1) = false ∧ (tz == 2) = false) := by
        unfold swapT
        by_cases h : tz = 1 ∨ tz = 2
        · left
          refine ⟨3 - tz, h, rfl, if_pos h, ?_⟩
          rcases h with h | h <;> rw [h] <;> decide
        · right
          refine ⟨if_neg h, ?_, ?_⟩ <;> rw [beq_eq_false_iff_ne] <;> omega

      have hpq : Hid (swapT tz = tz → (swapT tz == tz) = true) := Lib.hid (fun h => by rw [h]; simp)
      have hq : (swapT tz == swapT tz) = true := by simp
      have hcase : ((m0.x == m1.x) = false ∨ (m0.x == m1.x) = true ∧ (m0.y == m1.y) = false ∨ (m0.x == m1.x) = true ∧ (m0.y == m1.y) = true ∧ tz = 0) := by
        by_cases h1 : m0.x = m1.x
        · by_cases h2 : m0.y = m1.y
          · exact .inr (.inr ⟨by simpa using h1, by simpa using h2, HZr.out.2 (.inl ⟨h1, h2⟩)⟩)
          · exact .inr (.inl ⟨by simpa using h1, by simpa using h2⟩)
        · exact .inl (by simpa using h1)
      have hcase2 : ((m1.x == m2.x) = false ∨ (m1.x == m2.x) = true ∧ (m1.y == m2.y) = false ∨ (m1.x == m2.x) = true ∧ (m1.y == m2.y) = true ∧ tz = 0) := by
        by_cases h1 : m1.x = m2.x
        · by_cases h2 : m1.y = m2.y
          · exact .inr (.inr ⟨by simpa using h1, by simpa using h2, HZr.out.2 (.inr ⟨h1, h2⟩)⟩)
          · exact .inr (.inl ⟨by simpa using h1, by simpa using h2⟩)
        · exact .inl (by simpa using h1)
      have HZN : Hid (((m0.x == m1.x) = false ∨ (m0.x == m1.x) = true ∧ (m0.y == m1.y) = false) → ((m1.x == m2.x) = false ∨ (m1.x == m2.x) = true ∧ (m1.y == m2.y) = false) → (tz == 0) = false) := Lib.hid (fun a b => by
        rw [beq_eq_false_iff_ne]
        intro h
        rcases HZr.out.1 h with ⟨h1, h2⟩ | ⟨h1, h2⟩
        · rcases a with a | ⟨_, a⟩ <;> simp [h1, h2] at a
        · rcases b with b | ⟨_, b⟩ <;> simp [h1, h2] at b)
      have HC1 := Lib.hid hcase
      have HC2 := Lib.hid hcase2
      clear hcase hcase2
      have hsw2 : ∃ y : Int, ((IntKind.i64.wrap (3 - tz) = y ∧ ((tz == 1) = true ∨ (tz == 1) = false ∧ (tz == 2) = true)) ∨ (tz = y ∧ (tz == 1) = false ∧ (tz == 2) = false)) ∧ (swapT tz == y) = true := by
        rcases hsw with ⟨z, hz1, hz2, hz3, hz4⟩ | ⟨hz3, hz4, hz5⟩
        · exact ⟨z, .inl ⟨by rw [hz2]; exact wrap_in (by omega), hz4⟩, by rw [hz3]; simp⟩
        · exact ⟨tz, .inr ⟨rfl, hz4, hz5⟩, hpq.out hz3⟩
      obtain ⟨y, hy, hyq⟩ := hsw2
      clear hsw hpq hq hrg
      rcases hy with ⟨hw, hz4 | ⟨hz4, hz5⟩⟩ | ⟨rfl, hz4, hz5⟩
      all_goals
        go_wp2_with fail
        go_cut [9] (fun p wx => p = .bool (tz == 0) ∧ ∃ n, wx = wc.drewN n)
        case first =>
          have HE0 : Hid (tz = 0 → (tz == 0) = true) := Lib.hid (fun h => by rw [h]; rfl)
          rcases HC1.out with h1 | ⟨h1, h2⟩ | ⟨h1, h2, h3⟩
          · rcases HC2.out with g1 | ⟨g1, g2⟩ | ⟨g1, g2, g3⟩
            · have HE := Lib.hid (HZN.out (.inl h1) (.inl g1))
              go_wp2_with fail
              go_quiet (fail)
              go_wp2_with fail
              go_meet
              case rel => exact ⟨by rw [HE.out], _, rfl⟩
            · have HE := Lib.hid (HZN.out (.inl h1) (.inr ⟨g1, g2⟩))
              go_wp2_with fail
              go_quiet (fail)
              go_wp2_with fail
              go_meet
              case rel => exact ⟨by rw [HE.out], _, rfl⟩
            · have HE := Lib.hid (HE0.out g3)
              clear g3
              go_wp2_with fail
              go_quiet (fail)
              go_wp2_with fail
              go_meet
              case rel => exact ⟨by rw [HE.out], _, rfl⟩
          · rcases HC2.out with g1 | ⟨g1, g2⟩ | ⟨g1, g2, g3⟩
            · have HE := Lib.hid (HZN.out (.inr ⟨h1, h2⟩) (.inl g1))
              go_wp2_with fail
              go_quiet (fail)
              go_wp2_with fail
              go_meet
              case rel => exact ⟨by rw [HE.out], _, rfl⟩
            · have HE := Lib.hid (HZN.out (.inr ⟨h1, h2⟩) (.inr ⟨g1, g2⟩))
              go_wp2_with fail
              go_quiet (fail)
              go_wp2_with fail
              go_meet
              case rel => exact ⟨by rw [HE.out], _, rfl⟩
            · have HE := Lib.hid (HE0.out g3)
              clear g3
              go_wp2_with fail
              go_quiet (fail)
              go_wp2_with fail
              go_meet
              case rel => exact ⟨by rw [HE.out], _, rfl⟩
          · have HE := Lib.hid (HE0.out h3)
            clear h3
            go_wp2_with fail
            go_quiet (fail)
            go_wp2_with fail
            go_meet
            case rel => exact ⟨by rw [HE.out], _, rfl⟩
        case rest =>
          obtain ⟨rfl, n9, rfl⟩ := hcut
          clear a0 a1 a2 b0 b1 b2 c0 c1 c2 hz4
          go_wp2
          go_ret
          exact ⟨rfl, below_drewN HVB.out _⟩
end Go.Proofs.Ytifnmfljlgaeoaa
