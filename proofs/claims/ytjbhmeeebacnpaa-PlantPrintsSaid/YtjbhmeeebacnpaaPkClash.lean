/- Contract of the landed Clash. -/
import Derived.Test.YtjbhmeeebacnpaaPkClashS
import Derived.Test.YtjbhmeeebacnpaaPkFoot
import Derived.WalkArith
namespace Go.Proofs.Ytjbhmeeebacnpaa
open Go Go.RowKit Fl

def FitB (b : BodD) : Prop := (Lit.int .i64 b.cel).wf = true ∧ (Lit.int .i64 b.dst).wf = true
theorem FitB.cell {b : BodD} (h : FitB b) {z : Int} (hz : z ∈ fpB b) : (Lit.int .i64 z).wf = true := by
  unfold fpB at hz
  split at hz
  · simp at hz
  · split at hz
    · rw [List.mem_singleton] at hz
      rw [hz]
      exact h.1
    · simp only [List.mem_cons, List.not_mem_nil, or_false] at hz
      rcases hz with rfl | rfl
      · rcases Int.le_total b.cel b.dst with h1 | h1
        · rw [Int.min_eq_left h1]; exact h.1
        · rw [Int.min_eq_right h1]; exact h.2
      · rcases Int.le_total b.cel b.dst with h1 | h1
        · rw [Int.max_eq_right h1]; exact h.2
        · rw [Int.max_eq_left h1]; exact h.1
abbrev MapI (w : World) (M n : Nat) (D : DataW Unit) : Prop := w.ownsMap Try.prog 3 (plainElem Try.prog 3) M n D
theorem int_key : Maps.Keyed Try.prog 3 := Maps.int_keyed Try.underlying3
theorem key_int (z : Int) (h : (Lit.int .i64 z).wf = true) : keyOf Try.prog 3 (.int .i64 z) = some (.int .i64 z) := by
  simp [keyOf, mapKey, Try.underlying3, h]
theorem ownsMap_keep {w w' : World} {P : Program} {k : TypeId} {R : Value → Option (DataW Unit × List MemPlace)} {m n : Nat} {D : DataW Unit} (h : w.ownsMap P k R m n D) (hb : Below w.heap.size w w') : w'.ownsMap P k R m n D := by
  obtain ⟨es, clock, h1, r⟩ := h
  exact ⟨es, clock, (hb.block _ (block_lt h1)).trans h1, r⟩
theorem own_farC {w w' : World} {base X n : Nat} {e : TypeId} {size : Nat} {v : Value} {xs : List Value} (h : w.ownsRow base e size v n xs) (hg : w.grownBy w' (some X)) (hX : X < base) : w'.ownsRow base e size v n xs := by
  obtain ⟨h1, hr⟩ := h
  refine ⟨h1, ?_⟩
  rcases hr with hr | ⟨g, cap, cur, hv, hgb, hh, hrest⟩
  · exact .inl hr
  · exact .inr ⟨g, cap, cur, hv, hgb, (hg.block g (block_lt hh) (fun e => by injection e with e; omega)).trans hh, hrest⟩
set_option maxRecDepth 100000 in
set_option maxHeartbeats 8000000 in
theorem devClash_c (A : Option Addr) (cap n : Nat) (l : List BodD) (hn : l.length = n) (w : World) (hh : Holds w A (bodS.cs l)) (hl : n ≤ 1000) (hfit : ∀ b ∈ l, FitB b) :
    Calls Try.prog 16 #[.slice A n cap] w fun e w' => e = .returned (clashV l) ∧ Below w.heap.size w w' := by
  subst hn
  have HH := Lib.hid hh
  have HFt := Lib.hid hfit
  obtain ⟨V, hV⟩ : ∃ V, clashV l = V := ⟨_, rfl⟩
  rw [hV]
  have HOut : Hid (∀ D p q f, CS l l.length 0 D p q f → V = .tuple #[.int .i64 p, .int .i64 q, .bool f]) := Lib.hid (fun D p q f h => by rw [← hV]; exact h.out)
  have HB0 := Lib.hid (below_newB w (.map #[] 0))
  have HM0 : Hid (MapI (w.alloc (.map #[] 0)) w.heap.size 0 (.map [])) := Lib.hid (World.ownsMap_made w Try.prog 3 (plainElem (H := Unit) Try.prog 3))
  clear hV hh hfit
  have hmm := @run_makeMap Try.prog
  go_enter Try.func16, Try.ntmps16
  go_wp2
  go_loopw [5, 6, 7, 18] (fun o1 o2 fd iv wr => ∃ (j : Nat) (D : DataW Unit) (p q : Int) (f : Bool), o1 = .int .i64 p ∧ o2 = .int .i64 q ∧ fd = .bool f ∧ iv = .int .i64 j ∧ j ≤ l.length ∧ Hid (CS l j 0 D p q f) ∧ Hid (MapI wr w.heap.size (2 * j) D) ∧ Hid (Below w.heap.size w wr)) (fun _ _ _ iv _ => l.length - (intOf iv).toNat)
  case atStart => exact ⟨0, .map [], 0, 0, false, rfl, rfl, rfl, rfl, Nat.zero_le _, Lib.hid (CS.zero l), HM0, HB0⟩
  case round =>
    clear HM0 HB0
    obtain ⟨j, D, p, q, f, rfl, rfl, rfl, rfl, hj, HC, HM, HB⟩ := hrel
    by_cases hlt : j < l.length
    · have hjl : (j : Int) < (l.length : Int) := by omega
      obtain ⟨b, o, rfl, hbw, a1⟩ := StK.holds_at (HH.out.keep HB.out) hlt
      obtain ⟨x0, x1, x2, x3⟩ := bod_cells a1
      have hbz := HB.out.size
      obtain ⟨fp, hfp⟩ : ∃ fp, fpB l[j] = fp := ⟨_, rfl⟩
      have hfl : fp.length ≤ 2 := hfp ▸ fpB_len l[j]
      have HAdd : Hid (∀ x D p q f (hx : x < fp.length), CS l j x D p q f → Maps.IsMap D → Maps.has D (.int .i64 fp[x]) = false → CS l j (x + 1) (D.put (.int .i64 fp[x]) (.lit (.int .i64 j))) p q f) := Lib.hid (by
        subst hfp
        exact fun x D p q f hx h hD hn => h.add hlt hx hD hn)
      have HHit : Hid (∀ x D p q f (hx : x < fp.length), CS l j x D p q f → Maps.has D (.int .i64 fp[x]) = true → ∃ m : Nat, D.atKey (.int .i64 fp[x]) (.lit (.int .i64 0)) = .lit (.int .i64 m) ∧ ((f = false ∨ (m : Int) < p) → CS l j (x + 1) D m j true) ∧ (f = true → ¬ (m : Int) < p → CS l j (x + 1) D p q f)) := Lib.hid (by
        subst hfp
        intro x D p q f hx h ht
        obtain ⟨m, g1, g2, g3⟩ := h.first _ ht
        exact ⟨m, g1, h.hit hlt hx g2 g3⟩)
      have HNext : Hid (∀ D p q f, CS l j fp.length D p q f → CS l (j + 1) 0 D p q f) := Lib.hid (by
        subst hfp
        exact fun D p q f h => h.next hlt rfl)
      have HFit : Hid (∀ x (hx : x < fp.length), (Lit.int .i64 fp[x]).wf = true) := Lib.hid (by
        subst hfp
        exact fun x hx => (HFt.out _ (List.getElem_mem hlt)).cell (List.getElem_mem hx))
      have HP := Lib.hid (fun W => devFp_c l[j] W)
      simp only [hfp] at HP
      clear hfp a1
      generalize l[j] = g at *
      obtain ⟨gc, gd, gs, gf⟩ := g
      rw [show bodS.k = 4 from rfl] at x0 x1 x2 x3
      dsimp only at x0 x1 x2 x3
      have HMa : Hid (MapI (wr.alloc (.cells #[.int .i64 gc, .int .i64 gd, .bool gs, .bool gf] 40)) w.heap.size (2 * j) D) := Lib.hid (HM.out.alloc _)
      have HBa : Hid (Below w.heap.size w (wr.alloc (.cells #[.int .i64 gc, .int .i64 gd, .bool gs, .bool gf] 40))) := Lib.hid (HB.out.alloc hbz _)
      have hwm : w.heap.size < (wr.alloc (.cells #[.int .i64 gc, .int .i64 gd, .bool gs, .bool gf] 40)).heap.size := by simp; omega
      clear HM HB
      go_wp2_with fail
      generalize (wr.alloc (.cells #[.int .i64 gc, .int .i64 gd, .bool gs, .bool gf] 40)) = w1 at *
      refine (HP.out w1).mono ?_
      rintro e w2 ⟨u, rfl, ho2, hb2⟩
      obtain ⟨Au, cu, rfl⟩ := own_sliceC ho2
      have HO2 := Lib.hid ho2
      have HM2 : Hid (MapI w2 w.heap.size (2 * j + 0) D) := Lib.hid (ownsMap_keep HMa.out hb2)
      have HB2 := Lib.hid (HBa.out.trans (hb2.mono HBa.out.size))
      generalize w1.heap.size = base at *
      clear ho2 hb2 HMa HBa HP x0 x1 x2 x3
      go_wp2
      go_loopw [5, 6, 7, 26] (fun o1 o2 fd xv ws => ∃ (x : Nat) (D : DataW Unit) (p q : Int) (f : Bool), o1 = .int .i64 p ∧ o2 = .int .i64 q ∧ fd = .bool f ∧ xv = .int .i64 x ∧ x ≤ fp.length ∧ Hid (CS l j x D p q f) ∧ Hid (MapI ws w.heap.size (2 * j + x) D) ∧ Hid (Below w.heap.size w ws) ∧ Hid (ws.ownsRow base 3 1 (.slice Au fp.length cu) fp.length (fp.map (fun z => Value.int .i64 z)))) (fun _ _ _ xv _ => fp.length - (intOf xv).toNat)
      case atStart => exact ⟨0, D, p, q, f, rfl, rfl, rfl, rfl, Nat.zero_le _, HC, HM2, HB2, HO2⟩
      case round =>
        clear HM2 HB2 HO2 HC
        obtain ⟨x, D, p, q, f, rfl, rfl, rfl, rfl, hx, HC, HM, HB, HO⟩ := hrel
        by_cases hxt : x < fp.length
        · have hxl : (x : Int) < (fp.length : Int) := by omega
          obtain ⟨b2, o2, hAu, e1⟩ := (ownsRow_holds HO.out).iv hxt
          subst hAu
          have hkey := Lib.hid (key_int fp[x] (HFit.out x hxt))
          have HAdd2 := Lib.hid (HAdd.out x D p q f hxt HC.out HM.out.isMap)
          have HHit2 := Lib.hid (HHit.out x D p q f hxt HC.out)
          clear HC
          generalize fp[x] = z at *
          rcases hd : Maps.has D (.int .i64 z) with _ | _
          · have HC2 := Lib.hid (HAdd2.out hd)
            clear HAdd2 HHit2
            have hval : plainElem (H := Unit) Try.prog 3 (.int .i64 (j : Int)) = some (.lit (.int .i64 j), []) := plainElem_int Try.underlying3 (WalkArith.wf_i64 (by omega))
            go_wp2_with (at_lookup; refine wpList_lookup_own_ok_int _ rfl _ _ 65 rfl 3 3 .i64 int_key Try.underlying65 Try.underlying3 (Try.zeroValue3 _) w.heap.size (2 * j + x) D rfl HM.out _ _ rfl hkey.out ?_)
            intro c hat hwc
            clear hat hwc
            go_wp2_with (at_mapUpdate; refine wpList_mapUpdate_own _ rfl _ _ _ 65 rfl 3 3 int_key Try.underlying65 (plainElem Try.prog 3) w.heap.size (2 * j + x) D rfl HM.out (by unfold maxLen; omega) _ _ (.int .i64 z) rfl rfl hkey.out (.lit (.int .i64 j)) [] hval ?_)
            intro w4 hown hgrow
            have HM4 : Hid (MapI w4 w.heap.size (2 * j + (x + 1)) _) := Lib.hid hown
            have HB4 : Hid (Below w.heap.size w w4) := Lib.hid (HB.out.grown hgrow HB.out.size (fun k hk => by injection hk with hk; omega))
            have HO4 := Lib.hid (own_farC HO.out hgrow hwm)
            clear hown hgrow HM HB HO
            go_wp2
            go_roundw
            case rel => exact ⟨x + 1, _, p, q, f, rfl, rfl, rfl, by go_num, by omega, HC2, HM4, HB4, HO4⟩
            case measure => simp [intOf]; omega
          · obtain ⟨m, hat0, hnew, hold⟩ := HHit2.out hd
            have HNew := Lib.hid hnew
            have HOld := Lib.hid hold
            have HAt0 := Lib.hid hat0
            have HM2 : Hid (MapI wr w.heap.size (2 * j + (x + 1)) D) := Lib.hid (HM.out.mono (by omega))
            clear HAdd2 HHit2 hnew hold hat0
            go_wp2_with (at_lookup; refine wpList_lookup_own_ok_int _ rfl _ _ 65 rfl 3 3 .i64 int_key Try.underlying65 Try.underlying3 (Try.zeroValue3 _) w.heap.size (2 * j + x) D rfl HM.out _ _ rfl hkey.out ?_)
            intro c hat hwc
            obtain rfl : c = (m : Int) := by
              rw [HAt0.out] at hat
              injection hat with hat
              injection hat with _ hat
              exact hat.symm
            clear hat hwc HAt0 HM
            rcases f with _ | _
            · have HC2 := Lib.hid (HNew.out (.inl rfl))
              clear HNew HOld
              go_wp2
              go_roundw
              case rel => exact ⟨x + 1, D, m, j, true, rfl, rfl, rfl, by go_num, by omega, HC2, HM2, HB, HO⟩
              case measure => simp [intOf]; omega
            · by_cases hmp : (m : Int) < p
              · have HC2 := Lib.hid (HNew.out (.inr hmp))
                clear HNew HOld
                go_wp2
                go_roundw
                case rel => exact ⟨x + 1, D, m, j, true, rfl, rfl, rfl, by go_num, by omega, HC2, HM2, HB, HO⟩
                case measure => simp [intOf]; omega
              · have HC2 := Lib.hid (HOld.out rfl (by omega))
                clear HNew HOld
                go_wp2
                go_roundw
                case rel => exact ⟨x + 1, D, p, q, true, rfl, rfl, rfl, by go_num, by omega, HC2, HM2, HB, HO⟩
                case measure => simp [intOf]; omega
        · obtain rfl : x = fp.length := by omega
          have HC2 := Lib.hid (HNext.out D p q f HC.out)
          have HM2 : Hid (MapI wr w.heap.size (2 * (j + 1)) D) := Lib.hid (HM.out.mono (by omega))
          clear HC HM HO hxt hx
          go_wp2
          go_roundw
          case rel => exact ⟨j + 1, D, p, q, f, rfl, rfl, rfl, by go_num, by omega, HC2, HM2, HB⟩
          case measure => simp [intOf]; omega
    · obtain rfl : j = l.length := by omega
      have HV := Lib.hid (HOut.out D p q f HC.out)
      clear HC HM HH
      go_wp2
      go_ret3
      exact ⟨congrArg Ending.returned HV.out.symm, HB.out⟩
end Go.Proofs.Ytjbhmeeebacnpaa
