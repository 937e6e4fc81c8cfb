/- Contract of the reference's Clash of layer 16. -/
import Derived.Test.YtjbhmeeebacnpaaPnRef
namespace Go.Proofs.Ytjbhmeeebacnpaa
open Go Go.RowKit Fl

theorem clashK_none {a : BodD} : ∀ {l : List BodD} {k : Nat}, (∀ j (h : j < l.length), meetB a l[j] = false) → clashK a l k = none
  | [], _, _ => rfl
  | b :: l, k, h => by
    unfold clashK
    rw [if_neg (by have := h 0 (by simp); simp only [List.getElem_cons_zero] at this; rw [this]; simp)]
    exact clashK_none (fun j hj => by have := h (j + 1) (by simp; omega); simpa using this)
theorem clashK_some {a : BodD} : ∀ {l : List BodD} {k j : Nat} (hj : j < l.length), meetB a l[j] = true → (∀ i (h : i < j), meetB a (l[i]'(by omega)) = false) → clashK a l k = some (k + j)
  | b :: l, k, 0, _, ht, _ => by
    unfold clashK
    rw [if_pos (by simpa using ht)]
    rfl
  | b :: l, k, j + 1, hj, ht, h => by
    unfold clashK
    rw [if_neg (by have := h 0 (by omega); simp only [List.getElem_cons_zero] at this; rw [this]; simp), clashK_some (j := j) (by simpa using hj) (by simpa using ht) (fun i hi => by have := h (i + 1) (by omega); simpa using this)]
    congr 1
    omega
theorem clash_drop {l : List BodD} {i : Nat} (h : i < l.length) : clashL (l.drop i) i = match clashK l[i] (l.drop (i + 1)) (i + 1) with
    | some k => some (i, k)
    | none => clashL (l.drop (i + 1)) (i + 1) := by
  rw [List.drop_eq_getElem_cons h]
  rfl
/-- No later robot meets this one. -/
theorem clash_step {l : List BodD} {i : Nat} (h : i < l.length) (hn : ∀ k (_ : i < k) (hk : k < l.length), meetB l[i] l[k] = false) : clashL (l.drop i) i = clashL (l.drop (i + 1)) (i + 1) := by
  rw [clash_drop h, clashK_none (fun j hj => by
    rw [List.getElem_drop]
    rw [List.length_drop] at hj
    exact hn _ (by omega) (by omega))]
theorem clash_hit {l : List BodD} {i k : Nat} (hk : k < l.length) (hik : i < k) (ht : meetB (l[i]'(by omega)) l[k] = true) (hn : ∀ k' (_ : i < k') (h2 : k' < k), meetB (l[i]'(by omega)) (l[k']'(by omega)) = false) : clashL (l.drop i) i = some (i, k) := by
  rw [clash_drop (by omega), clashK_some (j := k - (i + 1)) (by rw [List.length_drop]; omega) (by rw [List.getElem_drop]; simpa [show i + 1 + (k - (i + 1)) = k by omega] using ht) (fun j hj => by
    rw [List.getElem_drop]
    exact hn _ (by omega) (by omega))]
  simp only [show i + 1 + (k - (i + 1)) = k by omega]
theorem clash_end {l : List BodD} {i : Nat} (h : l.length ≤ i) : clashL (l.drop i) i = none := by
  rw [List.drop_eq_nil_of_le h]
  rfl
theorem meet_yes {a b : BodD} {x y : Nat} (hx : x < (fpB a).length) (hy : y < (fpB b).length) (h : (fpB a)[x] = (fpB b)[y]) : meetB a b = true := by
  unfold meetB
  rw [List.any_eq_true]
  exact ⟨_, List.getElem_mem hx, by rw [List.any_eq_true]; exact ⟨_, List.getElem_mem hy, by rw [h]; simp⟩⟩
theorem meet_no {a b : BodD} (h : ∀ x (hx : x < (fpB a).length) y (hy : y < (fpB b).length), (fpB a)[x] ≠ (fpB b)[y]) : meetB a b = false := by
  unfold meetB
  rw [List.any_eq_false]
  intro p hp
  obtain ⟨x, hx, rfl⟩ := List.getElem_of_mem hp
  rw [Bool.not_eq_true, List.any_eq_false]
  intro q hq
  obtain ⟨y, hy, rfl⟩ := List.getElem_of_mem hq
  have := h x hx y hy
  simpa using this
/-- What Clash returns. -/
def clashV (l : List BodD) : Value := match clashL l 0 with
  | some p => .tuple #[.int .i64 p.1, .int .i64 p.2, .bool true]
  | none => .tuple #[.int .i64 0, .int .i64 0, .bool false]
theorem clashV_hit {l : List BodD} {i k : Nat} (h0 : clashL l 0 = clashL (l.drop i) i) (h : clashL (l.drop i) i = some (i, k)) : clashV l = .tuple #[.int .i64 i, .int .i64 k, .bool true] := by
  unfold clashV
  rw [h0, h]
theorem clashV_end {l : List BodD} {i : Nat} (h0 : clashL l 0 = clashL (l.drop i) i) (h : l.length ≤ i) : clashV l = .tuple #[.int .i64 0, .int .i64 0, .bool false] := by
  unfold clashV
  rw [h0, clash_end h]
theorem own_sliceC {w : World} {base : Nat} {e : TypeId} {size n : Nat} {v : Value} {xs : List Value} (h : w.ownsRow base e size v n xs) : ∃ A c, v = .slice A n c := by
  obtain ⟨_, h2⟩ := h
  rcases h2 with ⟨rfl, rfl⟩ | ⟨g, cap, cur, rfl, _⟩
  · exact ⟨_, _, rfl⟩
  · exact ⟨_, _, rfl⟩
set_option maxRecDepth 100000 in
set_option maxHeartbeats 2000000 in
theorem refClash_c (A : Option Addr) (cap n : Nat) (l : List BodD) (hn : l.length = n) (w : World) (hh : Holds w A (bodS.cs l)) (hlen : n ≤ 1000000000000000) :
    Calls Try.prog 17 #[.slice A n cap] w fun e w' => e = .returned (clashV l) ∧ Below w.heap.size w w' := by
  subst hn
  have HH := Lib.hid hh
  obtain ⟨V, hV⟩ : ∃ V, clashV l = V := ⟨_, rfl⟩
  rw [hV]
  have HV : Hid (∀ i k (_ : clashL l 0 = clashL (l.drop i) i) (hk : k < l.length) (hik : i < k), meetB (l[i]'(by omega)) l[k] = true → (∀ k' (_ : i < k') (_ : k' < k), meetB (l[i]'(by omega)) (l[k']'(by omega)) = false) → V = .tuple #[.int .i64 i, .int .i64 k, .bool true]) := Lib.hid (fun i k h0 hk hik ht hno => by rw [← hV]; exact clashV_hit h0 (clash_hit hk hik ht hno))
  have HW : Hid (∀ i, clashL l 0 = clashL (l.drop i) i → l.length ≤ i → V = .tuple #[.int .i64 0, .int .i64 0, .bool false]) := Lib.hid (fun i h0 h => by rw [← hV]; exact clashV_end h0 h)
  clear hV hh
  go_enter Try.func17, Try.ntmps17
  go_wp2
  go_loopw [5] (fun i wr => ∃ j : Nat, i = .int .i64 j ∧ j ≤ l.length ∧ Hid (clashL l 0 = clashL (l.drop j) j) ∧ Hid (Below w.heap.size w wr)) (fun i _ => l.length - (intOf i).toNat)
  case atStart => exact ⟨0, rfl, Nat.zero_le _, Lib.hid rfl, Lib.hid (Below.refl _ _)⟩
  case round =>
    obtain ⟨j, rfl, hj, HC, HBr⟩ := hrel
    by_cases hlt : j < l.length
    · have hjl : (j : Int) < (l.length : Int) := by omega
      have hw1 : IntKind.i64.wrap ((j : Int) + 1) = ((j + 1 : Nat) : Int) := by rw [IntWalk.i64_in _ (by omega)]; omega
      go_wp2
      go_loopw [6] (fun i ws => ∃ k : Nat, i = .int .i64 k ∧ j + 1 ≤ k ∧ k ≤ l.length ∧ Hid (∀ k' (_ : j < k') (h2 : k' < k) (h3 : k' < l.length), meetB l[j] l[k'] = false) ∧ Hid (Below w.heap.size w ws)) (fun i _ => l.length - (intOf i).toNat)
      case atStart => exact ⟨j + 1, by first | rfl | (rw [hw1]) | (simp [hw1]), Nat.le_refl _, by omega, Lib.hid (fun k' h1 h2 _ => by omega), HBr⟩
      case round =>
        clear HBr
        obtain ⟨k, rfl, hk1, hk2, HN, HBs⟩ := hrel
        by_cases hkt : k < l.length
        · have hkl : (k : Int) < (l.length : Int) := by omega
          have hR : meetB l[j] l[k] = true → V = .tuple #[.int .i64 j, .int .i64 k, .bool true] := fun ht => HV.out j k HC.out hkt (by omega) ht (fun k' h1 h2 => HN.out k' h1 h2 (by omega))
          have hS : meetB l[j] l[k] = false → ∀ k' (_ : j < k') (h2 : k' < k + 1) (h3 : k' < l.length), meetB l[j] l[k'] = false := fun hf k' h1 h2 h3 => by
            rcases Nat.lt_succ_iff_lt_or_eq.1 h2 with h4 | rfl
            · exact HN.out k' h1 h4 h3
            · exact hf
          generalize hQ : (∀ k' (_ : j < k') (h2 : k' < k + 1) (h3 : k' < l.length), meetB l[j] l[k'] = false) = Q at hS
          have HQ := Lib.hid hQ
          clear hQ
          obtain ⟨b, o, rfl, _, a1⟩ := StK.holds_at HH.out hlt
          obtain ⟨b2, o2, hbo, _, a2⟩ := StK.holds_at HH.out hkt
          injection hbo with hbo
          injection hbo with hb1 hb2
          subst hb1 hb2
          have HYes : Hid (∀ x (hx : x < (fpB l[j]).length) y (hy : y < (fpB l[k]).length), (fpB l[j])[x] = (fpB l[k])[y] → V = .tuple #[.int .i64 j, .int .i64 k, .bool true]) := Lib.hid (fun x hx y hy h => hR (meet_yes hx hy h))
          have HNo : Hid ((∀ x (hx : x < (fpB l[j]).length) y (hy : y < (fpB l[k]).length), (fpB l[j])[x] ≠ (fpB l[k])[y]) → Q) := Lib.hid (fun h => hS (meet_no h))
          clear hR hS
          have hF := fun W => refFp_c l[j] W
          have hG := fun W => refFp_c l[k] W
          have hP2 := fpB_len l[j]
          have hR2 := fpB_len l[k]
          have hxf := fun W (hW : Below w.heap.size w W) => bod_cells (a1.keep hW)
          have hxg := fun W (hW : Below w.heap.size w W) => bod_cells (a2.keep hW)
          clear a1 a2
          generalize fpB l[j] = P at *
          generalize fpB l[k] = R at *
          generalize l[j] = f at *
          generalize l[k] = g at *
          obtain ⟨fc, fd, fs, ff⟩ := f
          obtain ⟨gc, gd, gs, gf⟩ := g
          rw [show bodS.k = 4 from rfl] at hxf hxg
          dsimp only at hxf hxg
          obtain ⟨x0, x1, x2, x3⟩ := hxf _ HBs.out
          obtain ⟨y0, y1, y2, y3⟩ := hxg _ HBs.out
          have HF := Lib.hid hF
          have HG := Lib.hid hG
          have HXF := Lib.hid hxf
          have HXG := Lib.hid hxg
          clear hF hG hxf hxg HN HV HW HH
          go_wp2_with fail
          go_region_with (go_at_call 20; (first | (have h := HOP; clear h; refine (HG.out _).mono ?_; rintro e w6 ⟨u6, rfl, ho6, hb6⟩; obtain ⟨Aq, cq, rfl⟩ := own_sliceC ho6; have HQ6 := Lib.hid (ownsRow_holds ho6); have HP6 := Lib.hid (HOP.out.keep hb6); have HB6 := Lib.hid (HB5.out.trans (hb6.mono HB5.out.size)); clear HOP HB5 ho6 hb6) | (refine (HF.out _).mono ?_; rintro e w5 ⟨u5, rfl, ho5, hb5⟩; obtain ⟨Ap, cp, rfl⟩ := own_sliceC ho5; have HOP := Lib.hid (ownsRow_holds ho5); have HB5 := Lib.hid (HBs.out.drew.trans (hb5.mono HBs.out.size)); clear x0 x1 x2 x3 y0 y1 y2 y3 ho5 hb5; obtain ⟨x0, x1, x2, x3⟩ := HXF.out _ HB5.out; obtain ⟨y0, y1, y2, y3⟩ := HXG.out _ HB5.out)))
          · skip
            go_wp2
            go_loopw [9] (fun i wt => ∃ x n : Nat, i = .int .i64 x ∧ x ≤ P.length ∧ Hid (∀ x' (_ : x' < x) (hx : x' < P.length) y (hy : y < R.length), P[x'] ≠ R[y]) ∧ wt = w6.drewN n) (fun i _ => P.length - (intOf i).toNat)
            case atStart => exact ⟨0, 0, rfl, Nat.zero_le _, Lib.hid (fun _ h => absurd h (by omega)), rfl⟩
            case round =>
              obtain ⟨x, m, rfl, hx, HX, rfl⟩ := hrel
              by_cases hxt : x < P.length
              · have hxl : (x : Int) < (P.length : Int) := by omega
                obtain ⟨bp, op, rfl, _, cp0⟩ := HP6.out.at_ (by simp; omega)
                have cx := cp0 x (by simpa using hxt)
                rw [List.getElem_map] at cx
                clear cp0
                go_wp2
                go_loopw [10] (fun i wu => ∃ y n : Nat, i = .int .i64 y ∧ y ≤ R.length ∧ Hid (∀ y' (_ : y' < y) (hy : y' < R.length), P[x] ≠ R[y']) ∧ wu = w6.drewN n) (fun i _ => R.length - (intOf i).toNat)
                case atStart => exact ⟨0, _, rfl, Nat.zero_le _, Lib.hid (fun _ h => absurd h (by omega)), rfl⟩
                case round =>
                  obtain ⟨y, m2, rfl, hy, HY, rfl⟩ := hrel
                  by_cases hyt : y < R.length
                  · have hyl : (y : Int) < (R.length : Int) := by omega
                    obtain ⟨bq, oq, rfl, _, cq0⟩ := HQ6.out.at_ (by simp; omega)
                    have cy := cq0 y (by simpa using hyt)
                    rw [List.getElem_map] at cy
                    clear cq0
                    by_cases heq : P[x] = R[y]
                    · have HE := Lib.hid (HYes.out x hxt y hyt heq)
                      have hne : (P[x] == R[y]) = true := by simpa using heq
                      clear heq HYes HNo HX HY HQ HC
                      generalize P[x] = px at *
                      generalize R[y] = ry at *
                      go_wp2
                      go_quiet (fail)
                      go_wp2
                      go_ret3
                      exact ⟨by rw [HE.out]; rfl, below_drewN (below_drewN HB6.out _) _⟩
                    · have hne : (P[x] == R[y]) = false := by simpa using heq
                      have HY2 : Hid (∀ y' (_ : y' < y + 1) (hy : y' < R.length), P[x] ≠ R[y']) := Lib.hid (fun y' h h3 => by
                        rcases Nat.lt_succ_iff_lt_or_eq.1 h with h4 | rfl
                        · exact HY.out y' h4 h3
                        · exact heq)
                      clear heq HY HYes HNo HX HQ HC
                      generalize hpx : P[x] = px at *
                      have HPx := Lib.hid hpx
                      clear hpx
                      generalize hry : R[y] = ry at *
                      clear hry
                      go_wp2
                      go_quiet (fail)
                      go_wp2
                      go_roundw
                      case rel => exact ⟨y + 1, _, by go_num, by omega, HY2, rfl⟩
                      case measure => simp [intOf]; omega
                  · have HX2 : Hid (∀ x' (_ : x' < x + 1) (hx : x' < P.length) y (hy : y < R.length), P[x'] ≠ R[y]) := Lib.hid (fun x' h h2 y' h3 => by
                      rcases Nat.lt_succ_iff_lt_or_eq.1 h with h4 | rfl
                      · exact HX.out x' h4 h2 y' h3
                      · exact HY.out y' (by omega) h3)
                    clear HY HX HYes HNo HQ HC cx
                    go_wp2
                    go_roundw
                    case rel => exact ⟨x + 1, _, by go_num, by omega, HX2, rfl⟩
                    case measure => simp [intOf]; omega
              · have HN2 := Lib.hid (HNo.out (fun x' h y' h2 => HX.out x' (by omega) h y' h2))
                have hyq : Hid (Below w.heap.size w (w6.drewN m)) := Lib.hid (below_drewN HB6.out _)
                clear HX HYes HNo HC
                go_wp2
                go_roundw
                case rel => exact ⟨k + 1, by go_num, by omega, by omega, Lib.hid (HQ.out ▸ HN2.out), hyq⟩
                case measure => simp [intOf]; omega
          · skip
            go_wp2
            go_loopw [9] (fun i wt => ∃ x n : Nat, i = .int .i64 x ∧ x ≤ P.length ∧ Hid (∀ x' (_ : x' < x) (hx : x' < P.length) y (hy : y < R.length), P[x'] ≠ R[y]) ∧ wt = w6.drewN n) (fun i _ => P.length - (intOf i).toNat)
            case atStart => exact ⟨0, 0, rfl, Nat.zero_le _, Lib.hid (fun _ h => absurd h (by omega)), rfl⟩
            case round =>
              obtain ⟨x, m, rfl, hx, HX, rfl⟩ := hrel
              by_cases hxt : x < P.length
              · have hxl : (x : Int) < (P.length : Int) := by omega
                obtain ⟨bp, op, rfl, _, cp0⟩ := HP6.out.at_ (by simp; omega)
                have cx := cp0 x (by simpa using hxt)
                rw [List.getElem_map] at cx
                clear cp0
                go_wp2
                go_loopw [10] (fun i wu => ∃ y n : Nat, i = .int .i64 y ∧ y ≤ R.length ∧ Hid (∀ y' (_ : y' < y) (hy : y' < R.length), P[x] ≠ R[y']) ∧ wu = w6.drewN n) (fun i _ => R.length - (intOf i).toNat)
                case atStart => exact ⟨0, _, rfl, Nat.zero_le _, Lib.hid (fun _ h => absurd h (by omega)), rfl⟩
                case round =>
                  obtain ⟨y, m2, rfl, hy, HY, rfl⟩ := hrel
                  by_cases hyt : y < R.length
                  · have hyl : (y : Int) < (R.length : Int) := by omega
                    obtain ⟨bq, oq, rfl, _, cq0⟩ := HQ6.out.at_ (by simp; omega)
                    have cy := cq0 y (by simpa using hyt)
                    rw [List.getElem_map] at cy
                    clear cq0
                    by_cases heq : P[x] = R[y]
                    · have HE := Lib.hid (HYes.out x hxt y hyt heq)
                      have hne : (P[x] == R[y]) = true := by simpa using heq
                      clear heq HYes HNo HX HY HQ HC
                      generalize P[x] = px at *
                      generalize R[y] = ry at *
                      go_wp2
                      go_quiet (fail)
                      go_wp2
                      go_ret3
                      exact ⟨by rw [HE.out]; rfl, below_drewN (below_drewN HB6.out _) _⟩
                    · have hne : (P[x] == R[y]) = false := by simpa using heq
                      have HY2 : Hid (∀ y' (_ : y' < y + 1) (hy : y' < R.length), P[x] ≠ R[y']) := Lib.hid (fun y' h h3 => by
                        rcases Nat.lt_succ_iff_lt_or_eq.1 h with h4 | rfl
                        · exact HY.out y' h4 h3
                        · exact heq)
                      clear heq HY HYes HNo HX HQ HC
                      generalize hpx : P[x] = px at *
                      have HPx := Lib.hid hpx
                      clear hpx
                      generalize hry : R[y] = ry at *
                      clear hry
                      go_wp2
                      go_quiet (fail)
                      go_wp2
                      go_roundw
                      case rel => exact ⟨y + 1, _, by go_num, by omega, HY2, rfl⟩
                      case measure => simp [intOf]; omega
                  · have HX2 : Hid (∀ x' (_ : x' < x + 1) (hx : x' < P.length) y (hy : y < R.length), P[x'] ≠ R[y]) := Lib.hid (fun x' h h2 y' h3 => by
                      rcases Nat.lt_succ_iff_lt_or_eq.1 h with h4 | rfl
                      · exact HX.out x' h4 h2 y' h3
                      · exact HY.out y' (by omega) h3)
                    clear HY HX HYes HNo HQ HC cx
                    go_wp2
                    go_roundw
                    case rel => exact ⟨x + 1, _, by go_num, by omega, HX2, rfl⟩
                    case measure => simp [intOf]; omega
              · have HN2 := Lib.hid (HNo.out (fun x' h y' h2 => HX.out x' (by omega) h y' h2))
                have hyq : Hid (Below w.heap.size w (w6.drewN m)) := Lib.hid (below_drewN HB6.out _)
                clear HX HYes HNo HC
                go_wp2
                go_roundw
                case rel => exact ⟨k + 1, by go_num, by omega, by omega, Lib.hid (HQ.out ▸ HN2.out), hyq⟩
                case measure => simp [intOf]; omega
          · skip
            go_wp2
            go_loopw [9] (fun i wt => ∃ x n : Nat, i = .int .i64 x ∧ x ≤ P.length ∧ Hid (∀ x' (_ : x' < x) (hx : x' < P.length) y (hy : y < R.length), P[x'] ≠ R[y]) ∧ wt = w6.drewN n) (fun i _ => P.length - (intOf i).toNat)
            case atStart => exact ⟨0, 0, rfl, Nat.zero_le _, Lib.hid (fun _ h => absurd h (by omega)), rfl⟩
            case round =>
              obtain ⟨x, m, rfl, hx, HX, rfl⟩ := hrel
              by_cases hxt : x < P.length
              · have hxl : (x : Int) < (P.length : Int) := by omega
                obtain ⟨bp, op, rfl, _, cp0⟩ := HP6.out.at_ (by simp; omega)
                have cx := cp0 x (by simpa using hxt)
                rw [List.getElem_map] at cx
                clear cp0
                go_wp2
                go_loopw [10] (fun i wu => ∃ y n : Nat, i = .int .i64 y ∧ y ≤ R.length ∧ Hid (∀ y' (_ : y' < y) (hy : y' < R.length), P[x] ≠ R[y']) ∧ wu = w6.drewN n) (fun i _ => R.length - (intOf i).toNat)
                case atStart => exact ⟨0, _, rfl, Nat.zero_le _, Lib.hid (fun _ h => absurd h (by omega)), rfl⟩
                case round =>
                  obtain ⟨y, m2, rfl, hy, HY, rfl⟩ := hrel
                  by_cases hyt : y < R.length
                  · have hyl : (y : Int) < (R.length : Int) := by omega
                    obtain ⟨bq, oq, rfl, _, cq0⟩ := HQ6.out.at_ (by simp; omega)
                    have cy := cq0 y (by simpa using hyt)
                    rw [List.getElem_map] at cy
                    clear cq0
                    by_cases heq : P[x] = R[y]
                    · have HE := Lib.hid (HYes.out x hxt y hyt heq)
                      have hne : (P[x] == R[y]) = true := by simpa using heq
                      clear heq HYes HNo HX HY HQ HC
                      generalize P[x] = px at *
                      generalize R[y] = ry at *
                      go_wp2
                      go_quiet (fail)
                      go_wp2
                      go_ret3
                      exact ⟨by rw [HE.out]; rfl, below_drewN (below_drewN HB6.out _) _⟩
                    · have hne : (P[x] == R[y]) = false := by simpa using heq
                      have HY2 : Hid (∀ y' (_ : y' < y + 1) (hy : y' < R.length), P[x] ≠ R[y']) := Lib.hid (fun y' h h3 => by
                        rcases Nat.lt_succ_iff_lt_or_eq.1 h with h4 | rfl
                        · exact HY.out y' h4 h3
                        · exact heq)
                      clear heq HY HYes HNo HX HQ HC
                      generalize hpx : P[x] = px at *
                      have HPx := Lib.hid hpx
                      clear hpx
                      generalize hry : R[y] = ry at *
                      clear hry
                      go_wp2
                      go_quiet (fail)
                      go_wp2
                      go_roundw
                      case rel => exact ⟨y + 1, _, by go_num, by omega, HY2, rfl⟩
                      case measure => simp [intOf]; omega
                  · have HX2 : Hid (∀ x' (_ : x' < x + 1) (hx : x' < P.length) y (hy : y < R.length), P[x'] ≠ R[y]) := Lib.hid (fun x' h h2 y' h3 => by
                      rcases Nat.lt_succ_iff_lt_or_eq.1 h with h4 | rfl
                      · exact HX.out x' h4 h2 y' h3
                      · exact HY.out y' (by omega) h3)
                    clear HY HX HYes HNo HQ HC cx
                    go_wp2
                    go_roundw
                    case rel => exact ⟨x + 1, _, by go_num, by omega, HX2, rfl⟩
                    case measure => simp [intOf]; omega
              · have HN2 := Lib.hid (HNo.out (fun x' h y' h2 => HX.out x' (by omega) h y' h2))
                have hyq : Hid (Below w.heap.size w (w6.drewN m)) := Lib.hid (below_drewN HB6.out _)
                clear HX HYes HNo HC
                go_wp2
                go_roundw
                case rel => exact ⟨k + 1, by go_num, by omega, by omega, Lib.hid (HQ.out ▸ HN2.out), hyq⟩
                case measure => simp [intOf]; omega
        · have HC2 := Lib.hid (HC.out.trans (clash_step hlt (fun k' h1 h2 => HN.out k' h1 (by omega) h2)))
          clear HC HN HV HW HH
          go_wp2
          go_roundw
          case rel => exact ⟨j + 1, by go_num, by omega, HC2, HBs⟩
          case measure => simp [intOf]; omega
    · have HE := Lib.hid (HW.out j HC.out (by omega))
      clear HC HV HW HH
      go_wp2
      go_ret3
      exact ⟨by rw [HE.out]; rfl, HBr.out⟩
end Go.Proofs.Ytjbhmeeebacnpaa
