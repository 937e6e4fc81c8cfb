/- Contract of token's Ring, for all graphs and positions. -/
import Derived.Test.YtfgpenekmokdiaaMzAR
import Derived.Test.YtfgpenekmokdiaaMzAX
import Derived.Test.YtfgpenekmokdiaaMzBE
namespace Go.Proofs.Ytfgpenekmokdiaa
open Go Go.RowKit Fl

theorem board_S {w : World} {P : Nat} {B : List Int} (h : BdAt w P B) : w.rangeAt P 0 (B.map Iv) := fun j v hv => by
  obtain ⟨hj, hv⟩ := List.getElem?_eq_some_iff.1 hv
  have hj' : j < B.length := by simpa using hj
  rw [show (⟨P, 0 + j, none⟩ : Addr) = ⟨P, j, none⟩ by simp, (h.cell hj').1, ← hv]
  simp
theorem way_ok {g : GraphD} {ts ws : List Int} (h : PosOk g ts ws) {k : Nat} (hk : k < ws.length) : (ws[k] = -1 ∧ Fl.stepT ts ws k = -1) ∨ ∃ v : Nat, ws[k] = (v : Int) ∧ (bdL ts)[v]? = some (Fl.stepT ts ws k) := by
  unfold Fl.stepT
  rw [Fl.atI_get hk]
  rcases h.wantAt hk with e | ⟨v, e, hv⟩
  · left; rw [e]; exact ⟨rfl, h.minus⟩
  · right
    have := validG_len h.graph
    exact ⟨v, e, by rw [e]; exact bdL_at (by omega)⟩
set_option maxRecDepth 100000 in
set_option maxHeartbeats 8000000 in
theorem devRing2_c (A A1 A2 : Option Addr) (c c1 c2 : Nat) (g : GraphD) (ts ws : List Int) (w : World) (hh : RowsAt w A g) (h1 : Holds w A1 (ts.map Iv)) (h2 : Holds w A2 (ws.map Iv)) (hz : Sized g) (RR : Option (List Int)) (hRR : RR = ringR ts ws) (hp : posB g ts ws = true) (hl0 : 0 < ts.length) :
    Calls Try.prog 15 #[.slice A g.length c, .slice A1 ts.length c1, .slice A2 ws.length c2] w fun e w' => Below w.heap.size w w' ∧ RingRes true RR w.heap.size e w' := by
  have CP := Lib.hid (place_c A A1 A2 c c1 c2 g ts ws w hh h1 h2 hz)
  have H2 := Lib.hid h2
  have HPo := Lib.hid (posB_iff.1 hp)
  have hd := ring_dev HPo.out hl0
  have HD1 : Hid ((∃ k, k ≤ ts.length ∧ orbT ts ws k < 0) → RR = none) := Lib.hid (by rw [hRR]; exact hd.1)
  have HD2 : Hid ((∀ k, k ≤ ts.length → 0 ≤ orbT ts ws k) → ∃ R, RingOk ts ws R ∧ R[0]? = some (orbT ts ws ts.length) ∧ ∀ (i : Nat) (hi : i < R.length), (∀ y ∈ R, R[i] ≤ y) → RR = some (R.drop i ++ R.take i)) := Lib.hid (by rw [hRR]; exact hd.2)
  have hlen := HPo.out.len
  have hw24 : ws.length ≤ 24 := by have := HPo.out.few; omega
  have HLen := Lib.hid hlen
  have hnz : ((ts.length : Int) == 0) = false := by rw [beq_eq_false_iff_ne]; omega
  have hu := Try.undB
  have hi : (Try.prog.info? 58).map (·.size) = some ((bdL ts).map Iv).length := by rw [List.length_map, bdL_length]; exact Try.sizeB
  have HWay := Lib.hid (fun k (hk : k < ws.length) => way_ok HPo.out hk)
  have HSt := Lib.hid (fun t => step_lt (ts := ts) (ws := ws) (t := t))
  have ht24 : ts.length ≤ 24 := HPo.out.few
  clear hh h1 h2 hz hd hRR hlen
  go_enter Try.func15, Try.ntmps15
  go_wp2_with fail
  refine CP.out.mono ?_
  rintro e w1 ⟨⟨B, rfl, hBl, hBe⟩, hb⟩
  rw [hp]
  obtain rfl := hBe hp
  have HNw := Lib.hid (board_new w1)
  have HN2 := Lib.hid ((board_new w1).row (B' := bdL ts))
  have HB2 := Lib.hid (below_rowZ (G := w1.heap.size) (hb.alloc hb.size (.cells #[.int .i64 0, .int .i64 0, .int .i64 0, .int .i64 0, .int .i64 0, .int .i64 0, .int .i64 0, .int .i64 0, .int .i64 0, .int .i64 0, .int .i64 0, .int .i64 0, .int .i64 0, .int .i64 0, .int .i64 0, .int .i64 0, .int .i64 0, .int .i64 0, .int .i64 0, .int .i64 0, .int .i64 0, .int .i64 0, .int .i64 0, .int .i64 0] 58)) hb.size (bdC (bdL ts)))
  have hs2 : w1.heap.size + 1 ≤ ((w1.alloc (.cells #[.int .i64 0, .int .i64 0, .int .i64 0, .int .i64 0, .int .i64 0, .int .i64 0, .int .i64 0, .int .i64 0, .int .i64 0, .int .i64 0, .int .i64 0, .int .i64 0, .int .i64 0, .int .i64 0, .int .i64 0, .int .i64 0, .int .i64 0, .int .i64 0, .int .i64 0, .int .i64 0, .int .i64 0, .int .i64 0, .int .i64 0, .int .i64 0] 58)).setRow w1.heap.size (bdC (bdL ts))).heap.size := by simp [World.setRow]
  have hPw : w.heap.size ≤ w1.heap.size := hb.size
  clear hb CP hp hBe
  go_wp2_with (first | refine store_board rfl _ _ rfl _ rfl rfl HNw.out (by simp) hBl ?_)
  clear HNw hBl hnz
  generalize (w1.alloc (.cells #[.int .i64 0, .int .i64 0, .int .i64 0, .int .i64 0, .int .i64 0, .int .i64 0, .int .i64 0, .int .i64 0, .int .i64 0, .int .i64 0, .int .i64 0, .int .i64 0, .int .i64 0, .int .i64 0, .int .i64 0, .int .i64 0, .int .i64 0, .int .i64 0, .int .i64 0, .int .i64 0, .int .i64 0, .int .i64 0, .int .i64 0, .int .i64 0] 58)).setRow w1.heap.size (bdC (bdL ts)) = w2 at *
  generalize w1.heap.size = P at *
  clear w1
  have HO0 : Hid (∀ j, j ≤ 0 → 0 ≤ orbT ts ws j) := Lib.hid (fun j hj => by
    have h0 : j = 0 := by omega
    subst h0
    exact Int.le_refl _)
  go_loopw [10, 27] (fun t i wr => ∃ k : Nat, i = .int .i64 k ∧ k ≤ ts.length ∧ t = .int .i64 (orbT ts ws k) ∧ Hid (∀ j, j ≤ k → 0 ≤ orbT ts ws j) ∧ Hid (BdAt wr P (bdL ts)) ∧ Hid (Below w.heap.size w wr) ∧ P + 1 ≤ wr.heap.size) (fun _ i _ => ts.length - (intOf i).toNat)
  case atStart => exact ⟨0, rfl, Nat.zero_le _, rfl, HO0, HN2, HB2, hs2⟩
  case round =>
    clear HO0 HN2 HB2 hs2
    obtain ⟨k, rfl, hk, rfl, HOr, HN, HB, hs⟩ := hrel
    have hxlt : 0 ≤ orbT ts ws k ∧ orbT ts ws k < ts.length := by
      have h0 := HOr.out k (Nat.le_refl _)
      rcases k with _ | k
      · exact ⟨h0, by show (0 : Int) < _; omega⟩
      · rcases HSt.out (orbT ts ws k) with h1 | h1
        · have h2 : orbT ts ws (k + 1) = -1 := h1
          omega
        · exact h1
    by_cases hlt : k < ts.length
    · obtain ⟨tn, htn⟩ := Int.eq_ofNat_of_zero_le hxlt.1
      have htl : tn < ws.length := by have := HLen.out; omega
      have HNxt : Hid (orbT ts ws (k + 1) = Fl.stepT ts ws tn) := Lib.hid (by show Fl.stepT ts ws (orbT ts ws k) = _; rw [htn])
      have HW1 := Lib.hid (HWay.out tn htl)
      have HStt := Lib.hid (HSt.out (tn : Int))
      obtain ⟨b2, o2, rfl, e2⟩ := (H2.out.keep HB.out).iv htl
      have hb2 : b2 < wr.heap.size := World.block_lt_of_cell? _ _ e2
      have HBd1 := Lib.hid (fun h : orbT ts ws (k + 1) < 0 => HD1.out ⟨k + 1, by omega, h⟩)
      have HOr2 := Lib.hid (fun h : 0 ≤ orbT ts ws (k + 1) => (show ∀ j, j ≤ k + 1 → 0 ≤ orbT ts ws j from fun j hj => by
        rcases Nat.lt_or_ge j (k + 1) with h1 | h1
        · exact HOr.out j (by omega)
        · rw [show j = k + 1 by omega]; exact h))
      have HS : Hid (∀ W, Below wr.heap.size wr W → W.cell? ⟨b2, o2 + tn, none⟩ = some (.int .i64 ws[tn]) ∧ W.rangeAt P 0 ((bdL ts).map Iv)) := Lib.hid (fun W hW => ⟨(hW.cell (p := ⟨b2, o2 + tn, none⟩) hb2).trans e2, board_S (HN.out.keep hW (by omega))⟩)
      have htl2 : (tn : Int) < (ws.length : Int) := by omega
      have CI := Lib.hid (fun W => inTheWay_c (bdL ts) ws[tn] (Fl.stepT ts ws tn) W (bdL_length _) HW1.out)
      rw [htn]
      clear htn hxlt e2 hb2 HOr HW1 HWay HD1 HD2
      unfold bdC at CI
      generalize ws[tn] = y at *
      rw [HNxt.out] at HBd1 HOr2
      generalize Fl.stepT ts ws tn = x at *
      go_wp2_with fail
      refine wp_region_noPanic ?_
      refine wp_region_held_drew (S := fun W => W.cell? ⟨b2, o2 + tn, none⟩ = some (.int .i64 y) ∧ W.rangeAt P 0 ((bdL ts).map Iv)) (by kernel_rfl) (HS.out _ ((Below.refl _ _).drew)) (fun hHeld => ?_)
      refine wpAnyH_take (i := 0) (oi := _) (v := _) rfl (by kernel_rfl) (by kernel_rfl) (by kernel_rfl) (fun _ _ _ h => h) (yieldsIf_load_mid (by rfl) _ _ rfl _ _ rfl _ _ (fun w hw => hw.2) hu rfl hi) (by assumption) ?_
      (try simp only [Act.put])
      refine wpAnyH_take (i := 1) (oi := _) (v := ?_) rfl (by kernel_rfl) (by kernel_rfl) (by kernel_rfl) (fun _ _ _ h => h) (Or.inl ⟨by rfl, ?_⟩) (by assumption) ?_
      rotate_left
      · intro w hSw
        (try dsimp only at hSw)
        go_simp
        (try with_reducible rfl)
      (try simp only [Act.put])
      refine wpAnyH_take (i := 2) (oi := _) (v := ?_) rfl (by kernel_rfl) (by kernel_rfl) (by kernel_rfl) (fun _ _ _ h => h) (Or.inl ⟨by rfl, ?_⟩) (by assumption) ?_
      rotate_left
      · intro w hSw
        (try dsimp only at hSw)
        go_simp
        (try with_reducible rfl)
      (try simp only [Act.put])
      refine wpAnyH_take (i := 3) (oi := _) (v := ?_) rfl (by kernel_rfl) (by kernel_rfl) (by kernel_rfl) (fun _ _ _ h => h) (Or.inl ⟨by rfl, ?_⟩) (by assumption) ?_
      rotate_left
      · intro w hSw
        (try dsimp only at hSw)
        go_simp
        (try with_reducible rfl)
      (try simp only [Act.put])
      refine wpAnyH_take (i := 4) (oi := _) (v := ?_) rfl (by kernel_rfl) (by kernel_rfl) (by kernel_rfl) (fun _ _ _ h => h) (Or.inl ⟨by rfl, ?_⟩) (by assumption) ?_
      rotate_left
      · intro w hSw
        (try dsimp only at hSw)
        go_simp
        (try with_reducible rfl)
      (try simp only [Act.put])
      refine wpAnyH_ready (rs := [5]) (by kernel_rfl) (by simp) ?_
      refine AllReadyH.cons (o := _) rfl (fun K hK => ?_) AllReadyH.nil
      go_simp
      go_at_call 36
      refine (CI.out _).mono ?_
      rintro e w3 ⟨rfl, hb3⟩
      have HB3 := Lib.hid ((Below.refl wr.heap.size wr).drew.trans (hb3.mono (Nat.le_refl _)))
      clear hb3
      go_wp2_with fail
      refine hK.out _ _ (HS.out _ HB3.out) (fun hHeld => ?_)
      clear hK K
      (try simp only [Act.put])
      refine wpAnyH_take (i := 6) (oi := { dst := some 10, op := Op.assign (Operand.tmp 34), type := 3, pos := "token.go:99", after := #[{ on := 5, ground := Ground.data }, { on := 5, ground := Ground.chain }, { on := 0, ground := Ground.phase }, { on := 1, ground := Ground.phase }, { on := 2, ground := Ground.phase }, { on := 3, ground := Ground.phase }, { on := 4, ground := Ground.phase }, { on := 5, ground := Ground.phase }], guard := none }) (v := ?_) rfl (by kernel_rfl) (by kernel_rfl) (by kernel_rfl) (fun _ _ _ h => h) (Or.inl ⟨by rfl, ?_⟩) (by assumption) ?_
      rotate_left
      · intro w hSw
        (try dsimp only at hSw)
        go_simp
        (try with_reducible rfl)
      (try simp only [Act.put])
      refine wpAnyH_done (by kernel_rfl) ?_ _
      refine NoPanic.normal ?_
      simp only [List.setIfInBounds_toArray, List.set_cons_zero, List.set_cons_succ]
      have HN3 := Lib.hid (HN.out.keep HB3.out (by omega))
      have HB4 := Lib.hid (HB.out.trans (HB3.out.mono HB.out.size))
      have hs3 : P + 1 ≤ w3.heap.size := by have := HB3.out.size; omega
      clear CI HS hHeld HN HB
      by_cases hx : x = -1
      · have HE := Lib.hid (HBd1.out (by omega))
        subst hx
        go_wp2
        go_ret2
        exact ⟨HB4.out, ring_none HE.out⟩
      · have hxp : 0 ≤ x := by rcases HStt.out with h | h <;> omega
        have HO2 := Lib.hid (HOr2.out hxp)
        have hne : (x == -1) = false := by rw [beq_eq_false_iff_ne]; exact hx
        clear HBd1 HOr2 HStt
        go_wp2
        go_roundw
        case rel => exact ⟨k + 1, by go_num, by omega, by rw [HNxt.out], HO2, HN3, HB4, hs3⟩
        case measure => simp [intOf]; omega
    · obtain rfl : k = ts.length := by omega
      obtain ⟨R, hR, hR0, hRs⟩ := HD2.out HOr.out
      have HR := Lib.hid hR
      have HR0 := Lib.hid hR0
      have HRs := Lib.hid hRs
      obtain ⟨tn, htn⟩ := Int.eq_ofNat_of_zero_le hxlt.1
      have htl : tn < ws.length := by have := HLen.out; omega
      have hRp : 0 < R.length := List.length_pos_iff.2 hR.ne
      have hRl : R.length ≤ 24 := by have := hR.len; omega
      rw [htn] at hR0
      have HX0 : Hid (R[0]? = some (tn : Int)) := Lib.hid hR0
      have HRow : Hid ((wr.alloc (.cells #[.int .i64 (tn : Int)] 3)).ownsRow (P + 1) 3 1 (.slice (some ⟨wr.heap.size, 0, none⟩) 1 1) 1 ((R.take 1).map Iv)) := Lib.hid (by
        have h1 : R.take 1 = [(tn : Int)] := by
          obtain ⟨h2, h3⟩ := List.getElem?_eq_some_iff.1 hR0
          rw [List.take_succ_eq_append_getElem (show 0 < R.length from h2), h3]; rfl
        rw [h1]
        exact own_newI (heap_alloc_new wr _) hs)
      have HNa := Lib.hid (HN.out.alloc (.cells #[.int .i64 (tn : Int)] 3))
      have HBa := Lib.hid (HB.out.alloc HB.out.size (.cells #[.int .i64 (tn : Int)] 3))
      have hsa : P + 1 ≤ (wr.alloc (.cells #[.int .i64 (tn : Int)] 3)).heap.size := by simp; omega
      have hq0 : P + 1 ≤ wr.heap.size := hs
      rw [htn]
      clear HD1 HD2 HOr hR hRs hR0 hxlt htn HN HB hs HR0
      go_wp2_with fail
      generalize wr.alloc (.cells #[.int .i64 (tn : Int)] 3) = wa at *
      generalize wr.heap.size = q0 at *
      clear wr
      obtain ⟨b2, o2, hA2, e2⟩ := (H2.out.keep HBa.out).iv htl
      have hb2 : b2 < wa.heap.size := World.block_lt_of_cell? _ _ e2
      have HS : Hid (∀ W, Below wa.heap.size wa W → W.cell? ⟨b2, o2 + tn, none⟩ = some (.int .i64 ws[tn]) ∧ W.rangeAt P 0 ((bdL ts).map Iv)) := Lib.hid (fun W hW => ⟨(hW.cell (p := ⟨b2, o2 + tn, none⟩) hb2).trans e2, board_S (HNa.out.keep hW (by omega))⟩)
      subst hA2
      have htl2 : (tn : Int) < (ws.length : Int) := by omega
      have HW1 := Lib.hid (HWay.out tn htl)
      have CI := Lib.hid (fun W => inTheWay_c (bdL ts) ws[tn] (Fl.stepT ts ws tn) W (bdL_length _) HW1.out)
      unfold bdC at CI
      clear e2 hb2 HW1
      generalize ws[tn] = y at *
      go_wp2_with fail
      refine wp_region_noPanic ?_
      refine wp_region_held_drew (S := fun W => W.cell? ⟨b2, o2 + tn, none⟩ = some (.int .i64 y) ∧ W.rangeAt P 0 ((bdL ts).map Iv)) (by kernel_rfl) (HS.out _ ((Below.refl _ _).drew)) (fun hHeld => ?_)
      refine wpAnyH_take (i := 0) (oi := _) (v := _) rfl (by kernel_rfl) (by kernel_rfl) (by kernel_rfl) (fun _ _ _ h => h) (yieldsIf_load_mid (by rfl) _ _ rfl _ _ rfl _ _ (fun w hw => hw.2) hu rfl hi) (by assumption) ?_
      (try simp only [Act.put])
      refine wpAnyH_take (i := 1) (oi := _) (v := ?_) rfl (by kernel_rfl) (by kernel_rfl) (by kernel_rfl) (fun _ _ _ h => h) (Or.inl ⟨by rfl, ?_⟩) (by assumption) ?_
      rotate_left
      · intro w hSw
        (try dsimp only at hSw)
        go_simp
        (try with_reducible rfl)
      (try simp only [Act.put])
      refine wpAnyH_take (i := 2) (oi := _) (v := ?_) rfl (by kernel_rfl) (by kernel_rfl) (by kernel_rfl) (fun _ _ _ h => h) (Or.inl ⟨by rfl, ?_⟩) (by assumption) ?_
      rotate_left
      · intro w hSw
        (try dsimp only at hSw)
        go_simp
        (try with_reducible rfl)
      (try simp only [Act.put])
      refine wpAnyH_take (i := 3) (oi := _) (v := ?_) rfl (by kernel_rfl) (by kernel_rfl) (by kernel_rfl) (fun _ _ _ h => h) (Or.inl ⟨by rfl, ?_⟩) (by assumption) ?_
      rotate_left
      · intro w hSw
        (try dsimp only at hSw)
        go_simp
        (try with_reducible rfl)
      (try simp only [Act.put])
      refine wpAnyH_take (i := 4) (oi := _) (v := ?_) rfl (by kernel_rfl) (by kernel_rfl) (by kernel_rfl) (fun _ _ _ h => h) (Or.inl ⟨by rfl, ?_⟩) (by assumption) ?_
      rotate_left
      · intro w hSw
        (try dsimp only at hSw)
        go_simp
        (try with_reducible rfl)
      (try simp only [Act.put])
      refine wpAnyH_ready (rs := [5]) (by kernel_rfl) (by simp) ?_
      refine AllReadyH.cons (o := _) rfl (fun K hK => ?_) AllReadyH.nil
      go_simp
      go_at_call 36
      refine (CI.out _).mono ?_
      rintro e w3 ⟨rfl, hb3⟩
      have HB3 := Lib.hid ((Below.refl wa.heap.size wa).drew.trans (hb3.mono (Nat.le_refl _)))
      clear hb3
      go_wp2_with fail
      refine hK.out _ _ (HS.out _ HB3.out) (fun hHeld => ?_)
      clear hK K
      (try simp only [Act.put])
      refine wpAnyH_take (i := 6) (oi := { dst := some 12, op := Op.assign (Operand.tmp 45), type := 3, pos := "token.go:105", after := #[{ on := 5, ground := Ground.data }, { on := 5, ground := Ground.chain }, { on := 0, ground := Ground.phase }, { on := 1, ground := Ground.phase }, { on := 2, ground := Ground.phase }, { on := 3, ground := Ground.phase }, { on := 4, ground := Ground.phase }, { on := 5, ground := Ground.phase }], guard := none }) (v := ?_) rfl (by kernel_rfl) (by kernel_rfl) (by kernel_rfl) (fun _ _ _ h => h) (Or.inl ⟨by rfl, ?_⟩) (by assumption) ?_
      rotate_left
      · intro w hSw
        (try dsimp only at hSw)
        go_simp
        (try with_reducible rfl)
      (try simp only [Act.put])
      refine wpAnyH_done (by kernel_rfl) ?_ _
      refine NoPanic.normal ?_
      simp only [List.setIfInBounds_toArray, List.set_cons_zero, List.set_cons_succ]
      have HN3 := Lib.hid (HNa.out.keep HB3.out (by omega))
      have HB4 := Lib.hid (HBa.out.trans (HB3.out.mono HBa.out.size))
      have hs3 : P + 1 ≤ w3.heap.size := by have := HB3.out.size; omega
      have HRow3 := Lib.hid (ownsRow_below HRow.out HB3.out)
      clear CI HS hHeld HNa HBa HB3 HRow hsa
      go_wp2
      go_loopw [11, 12] (fun rv ov wr => ∃ (m q cap : Nat) (y : Int), rv = .slice (some ⟨q, 0, none⟩) m cap ∧ 0 < m ∧ m ≤ R.length ∧ P + 1 ≤ q ∧ R[m - 1]? = some y ∧ ov = .int .i64 (Fl.stepT ts ws y) ∧ Hid (wr.ownsRow (P + 1) 3 1 (.slice (some ⟨q, 0, none⟩) m cap) m ((R.take m).map Iv)) ∧ Hid (BdAt wr P (bdL ts)) ∧ Hid (Below w.heap.size w wr) ∧ P + 1 ≤ wr.heap.size) (fun rv _ _ => R.length - lenS rv)
      case atStart => exact ⟨1, q0, 1, tn, rfl, by omega, by omega, hq0, HX0.out, rfl, HRow3, HN3, HB4, hs3⟩
      case round =>
        clear HRow3 HN3 HB4 hs3 hq0
        obtain ⟨m, q, cap, y, rfl, hm0, hml, hq, hy, rfl, HRow, HN, HB, hs⟩ := hrel
        have hcap : m ≤ cap := own_le HRow.out hm0
        rcases HR.out.nextAt HX0.out hm0 hml hy with ⟨hmR, hst⟩ | ⟨hlt, hst, hne⟩
        · subst hmR
          rw [hst]
          obtain ⟨hmem, hmin⟩ := minOf_mem HR.out.ne
          obtain ⟨i, hi2, hie⟩ := List.mem_iff_getElem.1 hmem
          have hbef : ∀ j (h : j < R.length), j < i → R[j] ≠ Lib.minOf R := fun j h hj e => (List.pairwise_iff_getElem.1 HR.out.nodup j i h hi2 hj) (by rw [e, hie])
          have HRR := Lib.hid (HRs.out i hi2 (by rw [hie]; exact hmin))
          have HRow2 : Hid (wr.ownsRow (P + 1) 3 1 (.slice (some ⟨q, 0, none⟩) R.length cap) R.length (R.map Iv)) := Lib.hid (by have h := HRow.out; rwa [List.take_length] at h)
          have hHo : Holds wr (some ⟨q, 0, none⟩) (R.map Iv) := by
            obtain ⟨A8, c8, h8, h9⟩ := own_is HRow2.out
            injection h8 with h8
            rw [h8]; exact h9
          have CM := Lib.hid (Try.slices_Min_int q 0 R.length cap R wr hm0 (Nat.le_refl _) (by omega) (fun j hj => by
            obtain ⟨b', o', hA, he⟩ := hHo.iv hj
            injection hA with hA
            injection hA with q1 q2
            subst q1 q2
            rw [he, List.getD_eq_getElem?_getD, List.getElem?_eq_getElem hj]; rfl))
          rw [List.take_length] at CM
          have CB := Lib.hid (beginWith_c (some ⟨q, 0, none⟩) cap i R (Lib.minOf R) wr hHo hcap (by omega) hi2 hie hbef)
          have HLn : Hid (R.length = (R.drop i ++ R.take i).length) := Lib.hid (turn_len R i (by omega)).symm
          clear hmem hmin hie hbef hHo hst hy HRow HRs
          generalize Lib.minOf R = mn at *
          generalize R.drop i ++ R.take i = R2 at *
          go_wp2_with fail
          refine CM.out.mono ?_
          rintro e w4 ⟨rfl, rfl⟩
          clear CM
          go_wp2_with fail
          refine CB.out.mono ?_
          rintro e w5 ⟨u, rfl, hu5, hb5⟩
          have HU := Lib.hid (ownsRow_base hu5 HB.out.size)
          have HB5 := Lib.hid (HB.out.trans (hb5.mono HB.out.size))
          clear hu5 hb5 CB
          go_wp2
          go_ret2
          exact ⟨HB5.out, ring_some HRR.out (by rw [← HLn.out]; exact HU.out)⟩
        · rw [hst]
          have hrng := HR.out.rng _ (List.getElem_mem hlt)
          have hgt : R[m]? = some R[m] := List.getElem?_eq_getElem hlt
          have HTk : Hid (R.take (m + 1) = R.take m ++ [R[m]]) := Lib.hid (by rw [List.take_succ_eq_append_getElem hlt])
          obtain ⟨t3, ht3⟩ := Int.eq_ofNat_of_zero_le hrng.1
          have ht3l : t3 < ws.length := by have := HLen.out; omega
          rw [ht3] at hne hgt HTk ⊢
          have hne2 : ((t3 : Int) == (tn : Int)) = false := by rw [beq_eq_false_iff_ne]; exact hne
          have hb := own_base HRow.out
          clear hrng ht3 hst hy
          go_wp2_with (at_builtin; refine app_intL _ rfl _ _ rfl (P + 1) _ _ _ rfl (HRow.out.alloc _) wr.heap.size t3 rfl (by simp [go_sem]) (by omega) (by simp; omega) ?_)
          intro q8 cap8 w8 own8 hg8 hat8
          have HN8 := Lib.hid ((HN.out.alloc (.cells #[.int .i64 (t3 : Int)] 3)).grown hg8 (fun e => by have := hb P e.symm; omega))
          have HB8 : Hid (Below w.heap.size w w8) := Lib.hid ((HB.out.alloc HB.out.size _).grown hg8 (by have := HB.out.size; simp; omega) (fun k hk => by have := hb k hk; omega))
          have HO8 : Hid (w8.ownsRow (P + 1) 3 1 (.slice (some ⟨q8, 0, none⟩) (m + 1) cap8) (m + 1) ((R.take (m + 1)).map Iv)) := Lib.hid (by rw [HTk.out, List.map_append, List.map_take]; exact own8)
          have hs8 : P + 1 ≤ w8.heap.size := by have := hg8.size; simp at this; omega
          have hq8 : P + 1 ≤ q8 := by
            rcases hat8 with h | h
            · exact hb q8 h
            · rw [h]; simp; omega
          clear own8 hg8 hat8 hb HRow HN HB hs hne hq hcap
          obtain ⟨b3, o3, hA3, e3⟩ := (H2.out.keep HB8.out).iv ht3l
          injection hA3 with hA3
          injection hA3 with q1 q2
          subst q1 q2
          have hb3 : b2 < w8.heap.size := World.block_lt_of_cell? _ _ e3
          have HS : Hid (∀ W, Below w8.heap.size w8 W → W.cell? ⟨b2, o2 + t3, none⟩ = some (.int .i64 ws[t3]) ∧ W.rangeAt P 0 ((bdL ts).map Iv)) := Lib.hid (fun W hW => ⟨(hW.cell (p := ⟨b2, o2 + t3, none⟩) hb3).trans e3, board_S (HN8.out.keep hW (by omega))⟩)
          have htl3 : (t3 : Int) < (ws.length : Int) := by omega
          have HW1 := Lib.hid (HWay.out t3 ht3l)
          have CI := Lib.hid (fun W => inTheWay_c (bdL ts) ws[t3] (Fl.stepT ts ws t3) W (bdL_length _) HW1.out)
          unfold bdC at CI
          clear e3 hb3 HW1
          generalize ws[t3] = y3 at *
          go_wp2_with fail
          refine wp_region_noPanic ?_
          refine wp_region_held_drew (S := fun W => W.cell? ⟨b2, o2 + t3, none⟩ = some (.int .i64 y3) ∧ W.rangeAt P 0 ((bdL ts).map Iv)) (by kernel_rfl) (HS.out _ ((Below.refl _ _).drew)) (fun hHeld => ?_)
          refine wpAnyH_take (i := 0) (oi := _) (v := _) rfl (by kernel_rfl) (by kernel_rfl) (by kernel_rfl) (fun _ _ _ h => h) (yieldsIf_load_mid (by rfl) _ _ rfl _ _ rfl _ _ (fun w hw => hw.2) hu rfl hi) (by assumption) ?_
          (try simp only [Act.put])
          refine wpAnyH_take (i := 1) (oi := _) (v := ?_) rfl (by kernel_rfl) (by kernel_rfl) (by kernel_rfl) (fun _ _ _ h => h) (Or.inl ⟨by rfl, ?_⟩) (by assumption) ?_
          rotate_left
          · intro w hSw
            (try dsimp only at hSw)
            go_simp
            (try with_reducible rfl)
          (try simp only [Act.put])
          refine wpAnyH_take (i := 2) (oi := _) (v := ?_) rfl (by kernel_rfl) (by kernel_rfl) (by kernel_rfl) (fun _ _ _ h => h) (Or.inl ⟨by rfl, ?_⟩) (by assumption) ?_
          rotate_left
          · intro w hSw
            (try dsimp only at hSw)
            go_simp
            (try with_reducible rfl)
          (try simp only [Act.put])
          refine wpAnyH_take (i := 3) (oi := _) (v := ?_) rfl (by kernel_rfl) (by kernel_rfl) (by kernel_rfl) (fun _ _ _ h => h) (Or.inl ⟨by rfl, ?_⟩) (by assumption) ?_
          rotate_left
          · intro w hSw
            (try dsimp only at hSw)
            go_simp
            (try with_reducible rfl)
          (try simp only [Act.put])
          refine wpAnyH_take (i := 4) (oi := _) (v := ?_) rfl (by kernel_rfl) (by kernel_rfl) (by kernel_rfl) (fun _ _ _ h => h) (Or.inl ⟨by rfl, ?_⟩) (by assumption) ?_
          rotate_left
          · intro w hSw
            (try dsimp only at hSw)
            go_simp
            (try with_reducible rfl)
          (try simp only [Act.put])
          refine wpAnyH_ready (rs := [5]) (by kernel_rfl) (by simp) ?_
          refine AllReadyH.cons (o := _) rfl (fun K hK => ?_) AllReadyH.nil
          go_simp
          go_at_call 36
          refine (CI.out _).mono ?_
          rintro e w3 ⟨rfl, hb3⟩
          have HB3 := Lib.hid ((Below.refl w8.heap.size w8).drew.trans (hb3.mono (Nat.le_refl _)))
          clear hb3
          go_wp2_with fail
          refine hK.out _ _ (HS.out _ HB3.out) (fun hHeld => ?_)
          clear hK K
          (try simp only [Act.put])
          refine wpAnyH_take (i := 6) (oi := { dst := some 12, op := Op.assign (Operand.tmp 54), type := 3, pos := "token.go:105", after := #[{ on := 5, ground := Ground.data }, { on := 5, ground := Ground.chain }, { on := 0, ground := Ground.phase }, { on := 1, ground := Ground.phase }, { on := 2, ground := Ground.phase }, { on := 3, ground := Ground.phase }, { on := 4, ground := Ground.phase }, { on := 5, ground := Ground.phase }], guard := none }) (v := ?_) rfl (by kernel_rfl) (by kernel_rfl) (by kernel_rfl) (fun _ _ _ h => h) (Or.inl ⟨by rfl, ?_⟩) (by assumption) ?_
          rotate_left
          · intro w hSw
            (try dsimp only at hSw)
            go_simp
            (try with_reducible rfl)
          (try simp only [Act.put])
          refine wpAnyH_done (by kernel_rfl) ?_ _
          refine NoPanic.normal ?_
          simp only [List.setIfInBounds_toArray, List.set_cons_zero, List.set_cons_succ]
          have HN3 := Lib.hid (HN8.out.keep HB3.out (by omega))
          have HB4 := Lib.hid (HB8.out.trans (HB3.out.mono HB8.out.size))
          have hs3 : P + 1 ≤ w3.heap.size := by have := HB3.out.size; omega
          have HRow3 := Lib.hid (ownsRow_below HO8.out HB3.out)
          clear CI HS hHeld HN8 HB8 HB3 HO8 hs8
          go_wp2
          go_roundw
          case rel => exact ⟨m + 1, q8, cap8, t3, rfl, by omega, by omega, hq8, hgt, rfl, HRow3, HN3, HB4, hs3⟩
          case measure => simp [lenS]; omega
set_option maxRecDepth 100000 in
set_option maxHeartbeats 4000000 in
theorem devRing0_c (A A1 A2 : Option Addr) (c c1 c2 : Nat) (g : GraphD) (ts ws : List Int) (w : World) (hh : RowsAt w A g) (h1 : Holds w A1 (ts.map Iv)) (h2 : Holds w A2 (ws.map Iv)) (hz : Sized g) (RR : Option (List Int)) (hp : posB g ts ws = false) :
    Calls Try.prog 15 #[.slice A g.length c, .slice A1 ts.length c1, .slice A2 ws.length c2] w fun e w' => Below w.heap.size w w' ∧ RingRes false RR w.heap.size e w' := by
  have CP := Lib.hid (place_c A A1 A2 c c1 c2 g ts ws w hh h1 h2 hz)
  clear hh h1 h2 hz
  go_enter Try.func15, Try.ntmps15
  go_wp2_with fail
  refine CP.out.mono ?_
  rintro e w1 ⟨⟨B, rfl, hBl, _⟩, hb⟩
  rw [hp]
  have HNw := Lib.hid (board_new w1)
  have HB := Lib.hid (below_rowZ (G := w1.heap.size) (hb.alloc hb.size (.cells #[.int .i64 0, .int .i64 0, .int .i64 0, .int .i64 0, .int .i64 0, .int .i64 0, .int .i64 0, .int .i64 0, .int .i64 0, .int .i64 0, .int .i64 0, .int .i64 0, .int .i64 0, .int .i64 0, .int .i64 0, .int .i64 0, .int .i64 0, .int .i64 0, .int .i64 0, .int .i64 0, .int .i64 0, .int .i64 0, .int .i64 0, .int .i64 0] 58)) hb.size (bdC B))
  clear hb CP hp
  go_wp2_with (first | refine store_board rfl _ _ rfl _ rfl rfl HNw.out (by simp) hBl ?_)
  go_ret2
  exact ⟨HB.out, ring_bad⟩
set_option maxRecDepth 100000 in
set_option maxHeartbeats 4000000 in
theorem devRing1_c (A A1 A2 : Option Addr) (c c1 c2 : Nat) (g : GraphD) (ws : List Int) (w : World) (hh : RowsAt w A g) (h2 : Holds w A2 (ws.map Iv)) (hz : Sized g) (RR : Option (List Int)) (hRR : RR = none) (hp : posB g [] ws = true) :
    Calls Try.prog 15 #[.slice A g.length c, .slice A1 0 c1, .slice A2 ws.length c2] w fun e w' => Below w.heap.size w w' ∧ RingRes true RR w.heap.size e w' := by
  have CP := Lib.hid (place_c A A1 A2 c c1 c2 g [] ws w hh (.inl rfl) h2 hz)
  clear hh h2 hz
  go_enter Try.func15, Try.ntmps15
  go_wp2_with fail
  refine CP.out.mono ?_
  rintro e w1 ⟨⟨B, rfl, hBl, _⟩, hb⟩
  rw [hp]
  have HNw := Lib.hid (board_new w1)
  have HB := Lib.hid (below_rowZ (G := w1.heap.size) (hb.alloc hb.size (.cells #[.int .i64 0, .int .i64 0, .int .i64 0, .int .i64 0, .int .i64 0, .int .i64 0, .int .i64 0, .int .i64 0, .int .i64 0, .int .i64 0, .int .i64 0, .int .i64 0, .int .i64 0, .int .i64 0, .int .i64 0, .int .i64 0, .int .i64 0, .int .i64 0, .int .i64 0, .int .i64 0, .int .i64 0, .int .i64 0, .int .i64 0, .int .i64 0] 58)) hb.size (bdC B))
  have HE := Lib.hid hRR
  clear hb CP hp hRR
  go_wp2_with (first | refine store_board rfl _ _ rfl _ rfl rfl HNw.out (by simp) hBl ?_)
  go_ret2
  exact ⟨HB.out, ring_none HE.out⟩
/-- Ring, for all graphs and positions. -/
theorem devRing_c (A A1 A2 : Option Addr) (c c1 c2 : Nat) (g : GraphD) (ts ws : List Int) (w : World) (hh : RowsAt w A g) (h1 : Holds w A1 (ts.map Iv)) (h2 : Holds w A2 (ws.map Iv)) (hz : Sized g) :
    Calls Try.prog 15 #[.slice A g.length c, .slice A1 ts.length c1, .slice A2 ws.length c2] w fun e w' => Below w.heap.size w w' ∧ RingRes (posB g ts ws) (ringR ts ws) w.heap.size e w' := by
  rcases hp : posB g ts ws with _ | _
  · exact devRing0_c A A1 A2 c c1 c2 g ts ws w hh h1 h2 hz (ringR ts ws) hp
  · rcases Nat.eq_zero_or_pos ts.length with h | h
    · obtain rfl : ts = [] := List.eq_nil_of_length_eq_zero h
      exact devRing1_c A A1 A2 c c1 c2 g ws w hh h2 hz (ringR [] ws) rfl hp
    · exact devRing2_c A A1 A2 c c1 c2 g ts ws w hh h1 h2 hz (ringR ts ws) rfl hp h
end Go.Proofs.Ytfgpenekmokdiaa
