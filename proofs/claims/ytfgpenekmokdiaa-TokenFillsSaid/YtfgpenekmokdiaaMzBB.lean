/- Joined texts. -/
import Derived.Test.YtfgpenekmokdiaaMzBA
import Derived.Test.YtfgpenekmokdiaaMzAN
import Derived.Test.YtfgpenekmokdiaaMzAP
namespace Go.Proofs.Ytfgpenekmokdiaa
open Go Go.RowKit Fl

/-- What place returns. -/
def PlaceRes (g : GraphD) (ts ws : List Int) (e : Ending) : Prop := ∃ B : List Int, e = .returned (.tuple #[.agg (bdC B), .bool (posB g ts ws)]) ∧ B.length = 24 ∧ (posB g ts ws = true → B = bdL ts)
theorem placeRes_bad {g : GraphD} {ts ws B : List Int} (h : posB g ts ws = false) (hB : B.length = 24) : PlaceRes g ts ws (.returned (.tuple #[.agg (bdC B), .bool false])) := ⟨B, by rw [h], hB, fun h2 => by rw [h] at h2; cases h2⟩
theorem placeRes_ok {g : GraphD} {ts ws : List Int} (h : posB g ts ws = true) : PlaceRes g ts ws (.returned (.tuple #[.agg (bdC (bdL ts)), .bool true])) := ⟨bdL ts, by rw [h], bdL_length _, fun _ => rfl⟩
/-- Two results, the first one in a row. -/
theorem results_row2 {P : Program} {fn : Func} {p q : Tmp} {ty : TypeId} (h : fn.results = #[.cell p ty, .tmp q]) (tmps : Array Value) (w : World) (g : Nat) (t : TypeId) (cs : Array Value) (fr : Nat × Nat) (d : TypeDesc)
    (hp : tmps.getD p undef = .pointer (some ⟨g, 0, none⟩)) (hg : w.heap[g]? = some (.cells cs t fr))
    (hu : P.underlying ty = some d) (hd : (match d with | .struct _ | .array _ _ => true | _ => false) = true) (hi : (P.info? ty).map (·.size) = some cs.size) :
    (results fn tmps).run P w = .ok (.tuple #[.agg cs, tmps.getD q undef]) w := by
  have hp' : tmps[p]?.getD undef = .pointer (some ⟨g, 0, none⟩) := by simpa using hp
  simp [results, h, hp', asAddr, run_loadVar_row w g t ty cs fr d hg hu hd hi]
theorem place_ret {W : World} {G : Nat} {B B0 : List Int} (h : BdAt W G B0) (hB : B.length = 24) (k : Value) (tmps : Array Value) (hp : tmps.getD 6 undef = .pointer (some ⟨G, 0, none⟩)) (hk : tmps.getD 7 undef = k) :
    (results Try.f35 tmps).run Try.prog (W.setRow G (bdC B)) = .ok (.tuple #[.agg (bdC B), k]) (W.setRow G (bdC B)) := by
  subst hk
  have hrw : ((W.setRow G (bdC B))).heap[G]? = some (.cells (bdC B) 58 (0, 0)) := h.row (B' := B)
  exact results_row2 rfl _ _ G 58 (bdC B) (0, 0) _ hp hrw Try.undB rfl (sizeBl hB)
set_option maxRecDepth 100000 in
set_option maxHeartbeats 8000000 in
theorem place_c (A A1 A2 : Option Addr) (c c1 c2 : Nat) (g : GraphD) (ts ws : List Int) (w : World) (hh : RowsAt w A g) (h1 : Holds w A1 (ts.map Iv)) (h2 : Holds w A2 (ws.map Iv)) (hz : Sized g) :
    Calls Try.prog 35 #[.slice A g.length c, .slice A1 ts.length c1, .slice A2 ws.length c2] w fun e w' => PlaceRes g ts ws e ∧ Below w.heap.size w w' := by
  have HG := Lib.hid hh
  have H1 := Lib.hid h1
  have H2 := Lib.hid h2
  have HZ := Lib.hid hz
  have HR0 := Lib.hid (board_new w)
  have HB0 := Lib.hid ((Below.refl _ w).alloc (Nat.le_refl _) (.cells #[.int .i64 0, .int .i64 0, .int .i64 0, .int .i64 0, .int .i64 0, .int .i64 0, .int .i64 0, .int .i64 0, .int .i64 0, .int .i64 0, .int .i64 0, .int .i64 0, .int .i64 0, .int .i64 0, .int .i64 0, .int .i64 0, .int .i64 0, .int .i64 0, .int .i64 0, .int .i64 0, .int .i64 0, .int .i64 0, .int .i64 0, .int .i64 0] 58))
  have hs0 : (w.alloc (.cells #[.int .i64 0, .int .i64 0, .int .i64 0, .int .i64 0, .int .i64 0, .int .i64 0, .int .i64 0, .int .i64 0, .int .i64 0, .int .i64 0, .int .i64 0, .int .i64 0, .int .i64 0, .int .i64 0, .int .i64 0, .int .i64 0, .int .i64 0, .int .i64 0, .int .i64 0, .int .i64 0, .int .i64 0, .int .i64 0, .int .i64 0, .int .i64 0] 58)).heap.size = w.heap.size + 1 := by simp
  have CE := Lib.hid (emptyBoard_c (w.alloc (.cells #[.int .i64 0, .int .i64 0, .int .i64 0, .int .i64 0, .int .i64 0, .int .i64 0, .int .i64 0, .int .i64 0, .int .i64 0, .int .i64 0, .int .i64 0, .int .i64 0, .int .i64 0, .int .i64 0, .int .i64 0, .int .i64 0, .int .i64 0, .int .i64 0, .int .i64 0, .int .i64 0, .int .i64 0, .int .i64 0, .int .i64 0, .int .i64 0] 58)))
  clear hh h1 h2 hz
  go_enter Try.func35, Try.ntmps35
  go_wp2_with fail
  refine CE.out.mono ?_
  rintro e w1 ⟨rfl, hb1⟩
  rw [hs0] at hb1
  obtain ⟨G, hG⟩ : ∃ G, G = w.heap.size := ⟨_, rfl⟩
  rw [← hG] at HR0 HB0 hs0 hb1 ⊢
  have HGG := Lib.hid hG
  have HR1 := Lib.hid (HR0.out.keep hb1 (Nat.lt_succ_self G))
  have HB1 := Lib.hid (HB0.out.trans (hb1.mono (Nat.le_succ G)))
  have hs1 : G + 1 ≤ w1.heap.size := by have := hb1.size; omega
  clear hG hb1 HR0 HB0 hs0 CE
  have HR2 := Lib.hid ((HR1.out.alloc (.cells #[.int .i64 0, .int .i64 0, .int .i64 0, .int .i64 0, .int .i64 0, .int .i64 0, .int .i64 0, .int .i64 0, .int .i64 0, .int .i64 0, .int .i64 0, .int .i64 0, .int .i64 0, .int .i64 0, .int .i64 0, .int .i64 0, .int .i64 0, .int .i64 0, .int .i64 0, .int .i64 0, .int .i64 0, .int .i64 0, .int .i64 0, .int .i64 0] 58)).rowOther (H := w1.heap.size) (c := bdC (bdL [])) (by omega))
  have HN2 := Lib.hid ((board_new w1).row (B' := bdL []))
  have HB2 := Lib.hid (below_rowZ (G := w1.heap.size) (HB1.out.alloc (by omega) (.cells #[.int .i64 0, .int .i64 0, .int .i64 0, .int .i64 0, .int .i64 0, .int .i64 0, .int .i64 0, .int .i64 0, .int .i64 0, .int .i64 0, .int .i64 0, .int .i64 0, .int .i64 0, .int .i64 0, .int .i64 0, .int .i64 0, .int .i64 0, .int .i64 0, .int .i64 0, .int .i64 0, .int .i64 0, .int .i64 0, .int .i64 0, .int .i64 0] 58)) (by omega) (bdC (bdL [])))
  have HNw := Lib.hid (board_new w1)
  clear HR1 HB1
  go_wp2_with (first | refine store_board rfl _ _ rfl _ rfl rfl HNw.out (by simp) (bdL_length _) ?_)
  clear HNw
  generalize (w1.alloc (.cells #[.int .i64 0, .int .i64 0, .int .i64 0, .int .i64 0, .int .i64 0, .int .i64 0, .int .i64 0, .int .i64 0, .int .i64 0, .int .i64 0, .int .i64 0, .int .i64 0, .int .i64 0, .int .i64 0, .int .i64 0, .int .i64 0, .int .i64 0, .int .i64 0, .int .i64 0, .int .i64 0, .int .i64 0, .int .i64 0, .int .i64 0, .int .i64 0] 58)).setRow w1.heap.size (bdC (bdL [])) = w2 at *
  generalize w1.heap.size = P at *
  clear w1
  have HG2 := Lib.hid (HG.out.keep (HGG.out ▸ HB2.out))
  have CV := Lib.hid (devValid_c A c g w2 HG2.out HZ.out.1 HZ.out.2)
  go_wp2_with fail
  refine CV.out.mono ?_
  rintro e w3 ⟨rfl, rfl⟩
  clear CV HG2
  rcases hv : validG g with _ | _
  · have HE := Lib.hid (posB_graph (ts := ts) (ws := ws) hv)
    clear hv
    go_wp2_with (first | refine load_board rfl _ rfl _ rfl HN2.out (bdL_length _) ?_ | refine store_board rfl _ _ rfl _ rfl rfl HR2.out (by simp) (bdL_length _) ?_)
    refine bodyPost_ret (place_ret HR2.out (bdL_length _) _ _ rfl rfl) rfl ⟨placeRes_bad HE.out (bdL_length _), ?_⟩
    exact HGG.out ▸ below_rowZ HB2.out (Nat.le_refl _) _
  · by_cases hlen : ts.length = ws.length
    · have HV := Lib.hid hv
      have HLen := Lib.hid hlen
      have hbl : ((ts.length : Int) != (ws.length : Int)) = false := by rw [hlen]; simp
      have HN20 : Hid (BdAt w2 P (bdL (ts.take 0))) := Lib.hid (by rw [List.take_zero]; exact HN2.out)
      clear hv hlen HN2
      go_wp2
      clear hbl
      go_loopw [25] (fun i wr => ∃ k : Nat, i = .int .i64 k ∧ k ≤ ts.length ∧ Hid (okK g ts ws k) ∧ Hid (BdAt wr P (bdL (ts.take k))) ∧ Hid (BdAt wr G (List.replicate 24 0)) ∧ Hid (Below G w wr)) (fun i _ => ts.length - (intOf i).toNat)
      case atStart => exact ⟨0, rfl, Nat.zero_le _, Lib.hid (fun i h => by omega), HN20, HR2, HB2⟩
      case round =>
        clear HN20 HR2 HB2
        obtain ⟨k, rfl, hk, HK, HN, HR, HB⟩ := hrel
        have HBw : Hid (Below w.heap.size w wr) := Lib.hid (HGG.out ▸ HB.out)
        by_cases hlt : k < ts.length
        · have hlw : k < ws.length := by rw [← HLen.out]; exact hlt
          have HT := Lib.hid (tok_at (g := g) hlt hlw)
          have HF := Lib.hid (HK.out.facts HV.out hk)
          have HBad := Lib.hid (fun h : ¬ tokB g ts ws k = true => posB_bad (g := g) (ws := ws) hlt h)
          have HGo := Lib.hid (fun h : tokB g ts ws k = true => HK.out.more h)
          have HTk : Hid (ts.take (k + 1) = ts.take k ++ [ts[k]]) := Lib.hid (by rw [List.take_succ_eq_append_getElem hlt])
          have hkl : (ts.take k).length = k := by rw [List.length_take]; omega
          have HKl := Lib.hid hkl
          have hk24 : k ≤ 24 := HF.out.2.2
          obtain ⟨b1, o1, rfl, e1⟩ := (H1.out.keep HBw.out).iv hlt
          obtain ⟨b2, o2, rfl, e2⟩ := (H2.out.keep HBw.out).iv hlw
          clear HK hkl
          generalize ws[k] = y at *
          generalize ts[k] = x at *
          have CI := Lib.hid (isVertex_c A g.length c x wr)
          by_cases hin : 0 ≤ x ∧ x < g.length
          · rw [decide_eq_true hin] at CI
            obtain ⟨xn, rfl⟩ := Int.eq_ofNat_of_zero_le hin.1
            have hxg : xn < g.length := by omega
            have hx24 : xn < 24 := by have := validG_len HV.out; omega
            obtain ⟨cu, c1', f1⟩ : ∃ z : Int, wr.cell? ⟨P, xn, none⟩ = some (.int .i64 z) ∧ z = onF (ts.take k) xn := ⟨_, by
              have h := (HN.out.cell (k := xn) (by rw [bdL_length]; exact hx24)).1
              have h2 := bdL_at (ts := ts.take k) hx24
              rw [List.getElem?_eq_getElem (by rw [bdL_length]; exact hx24)] at h2
              injection h2 with h2
              rw [h, h2], rfl⟩
            by_cases hfr : cu = -1
            · subst hfr
              obtain ⟨bg, og, A3, c3, rfl, e3, h3⟩ := (HG.out.keep HBw.out).one hxg
              have h3l := HZ.out.2 _ (List.getElem_mem hxg)
              have h24r := validG_short HV.out _ (List.getElem_mem hxg)
              rw [Int.toNat_natCast, rowG_at hxg] at HT
              have CR := Lib.hid (fun (m : Nat) (z : Int) => contains_c A3 c3 g[xn] z (wr.drewN m) (h3.drewN m) h24r)
              have HFr := Lib.hid (onF_iff.1 f1.symm)
              have hG : Hid ((xn : Int) ∉ ts.take k ∧ onF (ts.take k) (xn : Int) = -1) := Lib.hid ⟨HFr.out, f1.symm⟩
              obtain ⟨cv, c4, f4⟩ : ∃ cv, wr.cell? ⟨P, xn, none⟩ = some cv ∧ wr.frozen? ⟨P, xn, none⟩ = false := ⟨_, HN.out.cell (k := xn) (by rw [bdL_length]; exact hx24)⟩
              clear h3 f1 c4
              generalize g[xn] = row at *
              have HNd : Hid (∀ m, BdAt (wr.drewN m) P (bdL (ts.take k))) := Lib.hid (fun m => ArrD.same HN.out rfl)
              have HRd : Hid (∀ m, BdAt (wr.drewN m) G (List.replicate 24 0)) := Lib.hid (fun m => ArrD.same HR.out rfl)
              have HBd : Hid (∀ m, Below G w (wr.drewN m)) := Lib.hid (fun m => below_drewN HB.out m)
              have HNs : Hid (∀ m, BdAt ((wr.drewN m).setCell ⟨P, xn, none⟩ (.int .i64 (k : Int))) P (bdL (ts.take (k + 1)))) := Lib.hid (fun m => by
                have h := (HNd.out m).set xn (k : Int)
                have h2 := bdL_add HFr.out
                rw [HKl.out] at h2
                rwa [h2, ← HTk.out] at h)
              have HRs : Hid (∀ m, BdAt ((wr.drewN m).setCell ⟨P, xn, none⟩ (.int .i64 (k : Int))) G (List.replicate 24 0)) := Lib.hid (fun m => (HRd.out m).put (by omega))
              have HBs : Hid (∀ m, Below G w ((wr.drewN m).setCell ⟨P, xn, none⟩ (.int .i64 (k : Int)))) := Lib.hid (fun m => below_put (HBd.out m) (by omega))
              clear HN HR HB
              by_cases hy : y = -1
              · have HO := Lib.hid (HGo.out (HT.out.2 ⟨hin, hG.out.2, .inl hy⟩))
                subst hy
                clear HT HGo HBad hin
                go_wp2_with fail
                refine CI.out.mono ?_
                rintro e w3 ⟨rfl, rfl⟩
                clear CI CR
                go_wp2_with fail
                go_quiet (fail)
                go_wp2
                go_roundw
                case rel => exact ⟨k + 1, by go_num, by omega, HO, Lib.hid (HNs.out _), Lib.hid (HRs.out _), Lib.hid (HBs.out _)⟩
                case measure => simp [intOf]; omega
              · have hy1 : (y == -1) = false := by simpa using hy
                have hyn : (y != -1) = true := by simpa using hy
                by_cases hm : y ∈ row
                · have HO := Lib.hid (HGo.out (HT.out.2 ⟨hin, hG.out.2, .inr hm⟩))
                  have C1 : Hid (∀ m, Calls Try.prog 60 #[.slice A3 row.length c3, .int .i64 y] (wr.drewN m) fun e w' => e = .returned (.bool true) ∧ w' = wr.drewN m) := Lib.hid (fun m => by
                    have h := CR.out m y
                    rwa [decide_eq_true hm] at h)
                  clear HT HGo HBad hin CR hm hG
                  go_wp2_with fail
                  refine CI.out.mono ?_
                  rintro e w3 ⟨rfl, rfl⟩
                  clear CI
                  go_wp2_with fail
                  go_quiet (first | (go_at_call 60; with_reducible exact Calls.quiet_of_same (C1.out _)))
                  go_wp2
                  go_roundw
                  case rel => exact ⟨k + 1, by go_num, by omega, HO, Lib.hid (HNs.out _), Lib.hid (HRs.out _), Lib.hid (HBs.out _)⟩
                  case measure => simp [intOf]; omega
                · have HE := Lib.hid (HBad.out fun h => by
                    rcases (HT.out.1 h).2.2 with h1 | h1
                    · exact hy h1
                    · exact hm h1)
                  have C1 : Hid (∀ m, Calls Try.prog 60 #[.slice A3 row.length c3, .int .i64 y] (wr.drewN m) fun e w' => e = .returned (.bool false) ∧ w' = wr.drewN m) := Lib.hid (fun m => by
                    have h := CR.out m y
                    rwa [decide_eq_false hm] at h)
                  clear HT HGo HBad hin CR hm hG
                  go_wp2_with fail
                  refine CI.out.mono ?_
                  rintro e w3 ⟨rfl, rfl⟩
                  clear CI
                  go_wp2_with fail
                  go_quiet (first | (go_at_call 60; with_reducible exact Calls.quiet_of_same (C1.out _)))
                  go_wp2_with (first | refine load_board rfl _ rfl _ rfl (HNd.out _) (bdL_length _) ?_ | refine store_board rfl _ _ rfl _ rfl rfl (HRd.out _) (by simp) (bdL_length _) ?_)
                  refine bodyPost_ret (place_ret (HRd.out _) (bdL_length _) _ _ rfl rfl) rfl ⟨placeRes_bad HE.out (bdL_length _), ?_⟩
                  exact HGG.out ▸ below_rowZ (HBd.out _) (Nat.le_refl _) _
            · have HE := Lib.hid (HBad.out fun h => by
                have h2 := (HT.out.1 h).2.1
                exact hfr (f1.trans h2))
              have hne : (cu != -1) = true := by simpa using hfr
              clear HT HF HGo HBad f1 hfr
              go_wp2_with fail
              refine CI.out.mono ?_
              rintro e w3 ⟨rfl, rfl⟩
              clear CI
              go_wp2_with (first | refine load_board rfl _ rfl _ rfl HN.out (bdL_length _) ?_ | refine store_board rfl _ _ rfl _ rfl rfl HR.out (by simp) (bdL_length _) ?_)
              refine bodyPost_ret (place_ret HR.out (bdL_length _) _ _ rfl rfl) rfl ⟨placeRes_bad HE.out (bdL_length _), ?_⟩
              exact HGG.out ▸ below_rowZ HB.out (Nat.le_refl _) _
          · have HE := Lib.hid (HBad.out fun h => hin (HT.out.1 h).1)
            rw [decide_eq_false hin] at CI
            clear HT HF HGo HBad
            go_wp2_with fail
            refine CI.out.mono ?_
            rintro e w3 ⟨rfl, rfl⟩
            clear CI
            go_wp2_with (first | refine load_board rfl _ rfl _ rfl HN.out (bdL_length _) ?_ | refine store_board rfl _ _ rfl _ rfl rfl HR.out (by simp) (bdL_length _) ?_)
            refine bodyPost_ret (place_ret HR.out (bdL_length _) _ _ rfl rfl) rfl ⟨placeRes_bad HE.out (bdL_length _), ?_⟩
            exact HGG.out ▸ below_rowZ HB.out (Nat.le_refl _) _
        · obtain rfl : k = ts.length := by omega
          have HE := Lib.hid (posB_ok HV.out HLen.out HK.out)
          have HNe : Hid (BdAt wr P (bdL ts)) := Lib.hid (by have h := HN.out; rwa [List.take_length] at h)
          clear HN HK
          go_wp2_with (first | refine load_board rfl _ rfl _ rfl HNe.out (bdL_length _) ?_ | refine store_board rfl _ _ rfl _ rfl rfl HR.out (by simp) (bdL_length _) ?_)
          refine bodyPost_ret (place_ret HR.out (bdL_length _) _ _ rfl rfl) rfl ⟨placeRes_ok HE.out, ?_⟩
          exact HGG.out ▸ below_rowZ HB.out (Nat.le_refl _) _
    · have HE := Lib.hid (posB_len (g := g) hlen)
      have hbl : ((ts.length : Int) != (ws.length : Int)) = true := by rw [bne_iff_ne]; omega
      clear hv
      go_wp2_with (first | refine load_board rfl _ rfl _ rfl HN2.out (bdL_length _) ?_ | refine store_board rfl _ _ rfl _ rfl rfl HR2.out (by simp) (bdL_length _) ?_)
      refine bodyPost_ret (place_ret HR2.out (bdL_length _) _ _ rfl rfl) rfl ⟨placeRes_bad HE.out (bdL_length _), ?_⟩
      exact HGG.out ▸ below_rowZ HB2.out (Nat.le_refl _) _
set_option maxHeartbeats 1000000 in
theorem devValidT_c (A A1 A2 : Option Addr) (c c1 c2 : Nat) (g : GraphD) (ts ws : List Int) (w : World) (hh : RowsAt w A g) (h1 : Holds w A1 (ts.map Iv)) (h2 : Holds w A2 (ws.map Iv)) (hz : Sized g) :
    Calls Try.prog 17 #[.slice A g.length c, .slice A1 ts.length c1, .slice A2 ws.length c2] w fun e w' => e = .returned (.bool (posB g ts ws)) ∧ Below w.heap.size w w' := by
  have CP := Lib.hid (place_c A A1 A2 c c1 c2 g ts ws w hh h1 h2 hz)
  clear hh h1 h2 hz
  go_enter Try.func17, Try.ntmps17
  go_wp2_with fail
  refine CP.out.mono ?_
  rintro e w1 ⟨⟨B, rfl, hBl, _⟩, hb⟩
  have HNw := Lib.hid (board_new w1)
  have HB := Lib.hid (below_rowZ (G := w1.heap.size) (hb.alloc hb.size (.cells #[.int .i64 0, .int .i64 0, .int .i64 0, .int .i64 0, .int .i64 0, .int .i64 0, .int .i64 0, .int .i64 0, .int .i64 0, .int .i64 0, .int .i64 0, .int .i64 0, .int .i64 0, .int .i64 0, .int .i64 0, .int .i64 0, .int .i64 0, .int .i64 0, .int .i64 0, .int .i64 0, .int .i64 0, .int .i64 0, .int .i64 0, .int .i64 0] 58)) hb.size (bdC B))
  clear hb CP
  go_wp2_with (first | refine store_board rfl _ _ rfl _ rfl rfl HNw.out (by simp) hBl ?_)
  go_ret
  exact ⟨rfl, HB.out⟩
end Go.Proofs.Ytfgpenekmokdiaa
namespace Go.Proofs.Ytfgpenekmokdiaa
open Go Go.RowKit Fl

set_option maxRecDepth 100000 in
set_option maxHeartbeats 4000000 in
theorem devFree_c (A A1 A2 : Option Addr) (c c1 c2 : Nat) (g : GraphD) (ts ws : List Int) (w : World) (hh : RowsAt w A g) (h1 : Holds w A1 (ts.map Iv)) (h2 : Holds w A2 (ws.map Iv)) (hz : Sized g) :
    Calls Try.prog 13 #[.slice A g.length c, .slice A1 ts.length c1, .slice A2 ws.length c2] w (FreePost g ts ws w) := by
  have CP := Lib.hid (place_c A A1 A2 c c1 c2 g ts ws w hh h1 h2 hz)
  have H2 := Lib.hid h2
  clear hh h1 h2 hz
  unfold FreePost
  rcases hp : posB g ts ws with _ | _
  · go_enter Try.func13, Try.ntmps13
    go_wp2_with fail
    refine CP.out.mono ?_
    rintro e w1 ⟨⟨B, rfl, hBl, _⟩, hb⟩
    rw [hp]
    have HNw := Lib.hid (board_new w1)
    have HB := Lib.hid (below_rowZ (G := w1.heap.size) (hb.alloc hb.size (.cells #[.int .i64 0, .int .i64 0, .int .i64 0, .int .i64 0, .int .i64 0, .int .i64 0, .int .i64 0, .int .i64 0, .int .i64 0, .int .i64 0, .int .i64 0, .int .i64 0, .int .i64 0, .int .i64 0, .int .i64 0, .int .i64 0, .int .i64 0, .int .i64 0, .int .i64 0, .int .i64 0, .int .i64 0, .int .i64 0, .int .i64 0, .int .i64 0] 58)) hb.size (bdC B))
    clear hb CP hp
    go_wp2_with (first | refine store_board rfl _ _ rfl _ rfl rfl HNw.out (by simp) hBl ?_)
    go_ret2
    exact ⟨HB.out, rfl⟩
  · have hpo := posB_iff.1 hp
    have HPo := Lib.hid hpo
    have hlen := hpo.len
    have h24 := hpo.few
    have HLen := Lib.hid hlen
    have hw24 : ws.length ≤ 24 := by omega
    have hg24 := validG_len hpo.graph
    clear hpo hlen h24
    go_enter Try.func13, Try.ntmps13
    go_wp2_with fail
    refine CP.out.mono ?_
    rintro e w1 ⟨⟨B, rfl, hBl, hBe⟩, hb⟩
    rw [hp]
    obtain rfl := hBe hp
    have HNw := Lib.hid (board_new w1)
    have HN2 := Lib.hid ((board_new w1).row (B' := bdL ts))
    have HB2 := Lib.hid (below_rowZ (G := w1.heap.size) (hb.alloc hb.size (.cells #[.int .i64 0, .int .i64 0, .int .i64 0, .int .i64 0, .int .i64 0, .int .i64 0, .int .i64 0, .int .i64 0, .int .i64 0, .int .i64 0, .int .i64 0, .int .i64 0, .int .i64 0, .int .i64 0, .int .i64 0, .int .i64 0, .int .i64 0, .int .i64 0, .int .i64 0, .int .i64 0, .int .i64 0, .int .i64 0, .int .i64 0, .int .i64 0] 58)) hb.size (bdC (bdL ts)))
    have hs2 : w1.heap.size + 1 ≤ ((w1.alloc (.cells #[.int .i64 0, .int .i64 0, .int .i64 0, .int .i64 0, .int .i64 0, .int .i64 0, .int .i64 0, .int .i64 0, .int .i64 0, .int .i64 0, .int .i64 0, .int .i64 0, .int .i64 0, .int .i64 0, .int .i64 0, .int .i64 0, .int .i64 0, .int .i64 0, .int .i64 0, .int .i64 0, .int .i64 0, .int .i64 0, .int .i64 0, .int .i64 0] 58)).setRow w1.heap.size (bdC (bdL ts))).heap.size := by simp [World.setRow]
    have hPw : w.heap.size ≤ w1.heap.size := hb.size
    clear hb CP hp hBe
    go_wp2_with (first | refine store_board rfl _ _ rfl _ rfl rfl HNw.out (by simp) hBl ?_)
    clear HNw hBl
    generalize (w1.alloc (.cells #[.int .i64 0, .int .i64 0, .int .i64 0, .int .i64 0, .int .i64 0, .int .i64 0, .int .i64 0, .int .i64 0, .int .i64 0, .int .i64 0, .int .i64 0, .int .i64 0, .int .i64 0, .int .i64 0, .int .i64 0, .int .i64 0, .int .i64 0, .int .i64 0, .int .i64 0, .int .i64 0, .int .i64 0, .int .i64 0, .int .i64 0, .int .i64 0] 58)).setRow w1.heap.size (bdC (bdL ts)) = w2 at *
    generalize w1.heap.size = P at *
    clear w1
    go_loopw [10, 24] (fun v i wr => ∃ k : Nat, i = .int .i64 k ∧ k ≤ ws.length ∧ Hid (wr.ownsRow (P + 1) 3 1 v (freeL ts ws k).length ((freeL ts ws k).map Iv)) ∧ Hid (BdAt wr P (bdL ts)) ∧ Hid (Below w.heap.size w wr) ∧ P + 1 ≤ wr.heap.size) (fun _ i _ => ws.length - (intOf i).toNat)
    case atStart => exact ⟨0, rfl, Nat.zero_le _, Lib.hid (World.ownsRow_nil _ _ _ _), HN2, HB2, hs2⟩
    case round =>
      clear HN2 HB2 hs2
      obtain ⟨k, rfl, hk, HO, HN, HB, hs⟩ := hrel
      by_cases hlt : k < ws.length
      · have HS := Lib.hid (freeL_succ ts ws k)
        rw [Fl.atI_get hlt] at HS
        have hfl := freeL_len ts ws k
        have HW := Lib.hid (HPo.out.wantAt hlt)
        obtain ⟨b2, o2, rfl, e2⟩ := (H2.out.keep HB.out).iv hlt
        generalize ws[k] = y at *
        by_cases hy : y = -1
        · have HE : Hid (freeL ts ws (k + 1) = freeL ts ws k) := Lib.hid (by rw [HS.out, if_neg (fun h => by omega), List.append_nil])
          subst hy
          clear HS HW
          go_wp2
          go_roundw
          case rel => exact ⟨k + 1, by go_num, by omega, Lib.hid (by rw [HE.out]; exact HO.out), HN, HB, hs⟩
          case measure => simp [intOf]; omega
        · obtain ⟨v, rfl, hv⟩ : ∃ v : Nat, y = (v : Int) ∧ v < g.length := by
            rcases HW.out with h | h
            · exact absurd h hy
            · exact h
          have hne : ((v : Int) == -1) = false := by rw [beq_eq_false_iff_ne]; exact hy
          have hne2 : ((v : Int) != -1) = true := by rw [bne_iff_ne]; exact hy
          have CI := Lib.hid (inTheWay_c (bdL ts) v (onF ts v) wr (bdL_length _) (.inr ⟨v, rfl, bdL_at (by omega)⟩))
          have HIff := Lib.hid (onF_iff (ts := ts) (x := (v : Int)))
          generalize onF ts (v : Int) = q at *
          by_cases hq : q = -1
          · have HE : Hid (freeL ts ws (k + 1) = freeL ts ws k ++ [(k : Int)]) := Lib.hid (by rw [HS.out, if_pos ⟨by omega, HIff.out.1 hq⟩])
            subst hq
            clear HS HW hy HIff
            go_wp2_with (first | refine load_boardG rfl _ rfl _ rfl HN.out (bdL_length _) ?_)
            refine CI.out.mono ?_
            rintro e w3 ⟨rfl, hb3⟩
            have hsz3 := hb3.size
            have HO3 := Lib.hid (ownsRow_below HO.out hb3)
            have HN3 := Lib.hid (HN.out.keep hb3 (by omega))
            have HB3 := Lib.hid (HB.out.trans (hb3.mono HB.out.size))
            have hb := own_base HO3.out
            clear CI hb3 HO HN HB
            generalize freeL ts ws k = xs at *
            go_wp2_with (at_builtin; refine app_int _ rfl _ _ rfl (P + 1) _ _ _ rfl (HO3.out.alloc _) w3.heap.size k rfl (by simp [go_sem]) (by omega) (by simp; omega) ?_)
            intro v8 w8 own8 hg8
            have HN8 := Lib.hid ((HN3.out.alloc (.cells #[.int .i64 k] 3)).grown hg8 (fun e => by have := hb P e.symm; omega))
            have HB8 : Hid (Below w.heap.size w w8) := Lib.hid ((HB3.out.alloc HB3.out.size _).grown hg8 (by have := HB3.out.size; simp; omega) (fun k hk => by have := hb k hk; omega))
            have HO8 : Hid (w8.ownsRow (P + 1) 3 1 v8 (freeL ts ws (k + 1)).length ((freeL ts ws (k + 1)).map Iv)) := Lib.hid (by rw [HE.out, List.length_append, List.map_append]; exact own8)
            have hs8 : P + 1 ≤ w8.heap.size := by have := hg8.size; simp at this; omega
            clear own8 hg8 hb HO3 HN3 HB3
            go_wp2
            go_roundw
            case rel => exact ⟨k + 1, by go_num, by omega, HO8, HN8, HB8, hs8⟩
            case measure => simp [intOf]; omega
          · have HE : Hid (freeL ts ws (k + 1) = freeL ts ws k) := Lib.hid (by rw [HS.out, if_neg (fun h => hq (HIff.out.2 h.2)), List.append_nil])
            have hqn : (q == -1) = false := by rw [beq_eq_false_iff_ne]; exact hq
            clear HS HW hy HIff hq
            go_wp2_with (first | refine load_boardG rfl _ rfl _ rfl HN.out (bdL_length _) ?_)
            refine CI.out.mono ?_
            rintro e w3 ⟨rfl, hb3⟩
            have hsz3 := hb3.size
            have HO3 := Lib.hid (ownsRow_below HO.out hb3)
            have HN3 := Lib.hid (HN.out.keep hb3 (by omega))
            have HB3 := Lib.hid (HB.out.trans (hb3.mono HB.out.size))
            clear CI hb3 HO HN HB
            go_wp2
            go_roundw
            case rel => exact ⟨k + 1, by go_num, by omega, Lib.hid (by rw [HE.out]; exact HO3.out), HN3, HB3, by omega⟩
            case measure => simp [intOf]; omega
      · obtain rfl : k = ws.length := by omega
        have HOw := Lib.hid (ownsRow_base HO.out (base2 := w.heap.size) (by omega))
        clear HO
        go_wp2
        go_ret2
        exact ⟨HB.out, _, rfl, by rw [HLen.out]; exact HOw.out⟩
set_option maxHeartbeats 1000000 in
theorem wants_c (x : Int) (w : World) : Calls Try.prog 43 #[.int .i64 x] w fun e w' => e = .returned (.bool (x != -1)) ∧ w' = w := by
  go_enter Try.func43, Try.ntmps43
  go_wp2
  go_ret
  exact ⟨rfl, rfl⟩
set_option maxRecDepth 100000 in
set_option maxHeartbeats 4000000 in
/-- Whether a token wants a vertex. -/
theorem idxWants_c (A : Option Addr) (c : Nat) (r : List Int) (w : World) (hr : Holds w A (r.map Iv)) (hl : r.length ≤ 1000000) :
    Calls Try.prog 62 #[.slice A r.length c, .func (.func 43) #[] #[]] w fun e w' => (∃ k : Int, e = .returned (.int .i64 k) ∧ decide (0 ≤ k) = r.any (fun x => x != -1)) ∧ Below w.heap.size w w' := by
  have HR := Lib.hid hr
  have HX : Hid (∀ j (h : j < r.length), r[j] ≠ -1 → r.any (fun x => x != -1) = true) := Lib.hid (fun j h hx => List.any_eq_true.2 ⟨_, List.getElem_mem h, by simpa using hx⟩)
  have HE : Hid ((∀ i (h : i < r.length), r[i] = -1) → r.any (fun x => x != -1) = false) := Lib.hid (fun h => by
    rw [List.any_eq_false]
    intro x hx
    obtain ⟨i, hi, rfl⟩ := List.mem_iff_getElem.1 hx
    simp [h i hi])
  clear hr
  generalize r.any (fun x => x != -1) = R at *
  go_enter Try.func62, Try.ntmps62
  go_wp2
  go_loopw [8] (fun iv wr => ∃ (i : Nat), iv = .int .i64 i ∧ i ≤ r.length ∧ Hid (∀ j (h : j < r.length), j < i → r[j] = -1) ∧ Hid (Below w.heap.size w wr)) (fun iv _ => r.length - (intOf iv).toNat)
  case atStart => exact ⟨0, rfl, Nat.zero_le _, Lib.hid (fun j _ h => by omega), Lib.hid (Below.refl _ _)⟩
  case round =>
    obtain ⟨i, rfl, hi, HP, HB⟩ := hrel
    by_cases hlt : i < r.length
    · obtain ⟨b, o, rfl, e1⟩ := (HR.out.keep HB.out).iv hlt
      have HXi := Lib.hid (HX.out i hlt)
      have HPi : Hid (r[i] = -1 → ∀ j (h : j < r.length), j < i + 1 → r[j] = -1) := Lib.hid (fun h0 j h h2 => by
        rcases Nat.lt_succ_iff_lt_or_eq.1 h2 with h3 | rfl
        · exact HP.out j h h3
        · exact h0)
      clear HP
      generalize r[i] = x at *
      by_cases hx : x = -1
      · have HQ := Lib.hid (HPi.out hx)
        have CN := Lib.hid (wants_c x wr)
        subst hx
        have hd : ((-1 : Int) != -1) = false := rfl
        rw [hd] at CN
        clear HPi HXi hd
        go_wp2_with (go_at_call 43; refine CN.out.mono ?_; rintro e w2 ⟨rfl, rfl⟩)
        go_roundw
        case rel => exact ⟨i + 1, by go_num, by omega, HQ, HB⟩
        case measure => simp [intOf]; omega
      · have HQ := Lib.hid (HXi.out hx)
        have CN := Lib.hid (wants_c x wr)
        rw [show (x != -1) = true by simpa using hx] at CN
        clear HPi HXi
        go_wp2_with (go_at_call 43; refine CN.out.mono ?_; rintro e w2 ⟨rfl, rfl⟩)
        go_ret
        exact ⟨⟨_, rfl, by rw [HQ.out]; exact decide_eq_true (by omega)⟩, HB.out⟩
    · obtain rfl : i = r.length := by omega
      have HQ := Lib.hid (HE.out fun i h => HP.out i h h)
      go_wp2
      go_ret
      exact ⟨⟨_, rfl, by rw [HQ.out]; rfl⟩, HB.out⟩
set_option maxHeartbeats 2000000 in
theorem anyWants_c (A : Option Addr) (c : Nat) (r : List Int) (w : World) (hr : Holds w A (r.map Iv)) (hl : r.length ≤ 1000000) :
    Calls Try.prog 42 #[.slice A r.length c, .func (.func 43) #[] #[]] w fun e w' => e = .returned (.bool (r.any (fun x => x != -1))) ∧ Below w.heap.size w w' := by
  have CI := Lib.hid (idxWants_c A c r w hr hl)
  clear hr
  generalize r.any (fun x => x != -1) = R at *
  go_enter Try.func42, Try.ntmps42
  go_wp2_with fail
  refine CI.out.mono ?_
  rintro e w1 ⟨⟨k, rfl, hk⟩, hb⟩
  have HB := Lib.hid hb
  have HK := Lib.hid hk
  clear hk hb CI
  go_wp2
  go_ret
  exact ⟨gr_bool HK.out, HB.out⟩
set_option maxRecDepth 100000 in
set_option maxHeartbeats 4000000 in
theorem devStuck_c (A A1 A2 : Option Addr) (c c1 c2 : Nat) (g : GraphD) (ts ws : List Int) (w : World) (hh : RowsAt w A g) (h1 : Holds w A1 (ts.map Iv)) (h2 : Holds w A2 (ws.map Iv)) (hz : Sized g) :
    Calls Try.prog 19 #[.slice A g.length c, .slice A1 ts.length c1, .slice A2 ws.length c2] w fun e w' => e = .returned (.bool (stuckB g ts ws)) ∧ Below w.heap.size w w' := by
  have CF := Lib.hid (devFree_c A A1 A2 c c1 c2 g ts ws w hh h1 h2 hz)
  have H2 := Lib.hid h2
  unfold FreePost at CF
  clear hh h1 h2 hz
  rcases hp : posB g ts ws with _ | _
  · have HE : Hid (stuckB g ts ws = false) := Lib.hid (by unfold stuckB; rw [hp]; rfl)
    rw [hp] at CF
    clear hp
    go_enter Try.func19, Try.ntmps19
    go_wp2_with fail
    refine CF.out.mono ?_
    rintro e w1 ⟨hb, he⟩
    rw [if_neg (by decide)] at he
    subst he
    have HB := Lib.hid hb
    clear hb CF
    go_wp2
    go_ret
    exact ⟨gr_bool HE.out.symm, HB.out⟩
  · have hpo := posB_iff.1 hp
    have hw24 : ws.length ≤ 24 := by have := hpo.few; have := hpo.len; omega
    have HE : Hid (stuckB g ts ws = (decide ((freeL ts ws ts.length).length = 0) && ws.any (fun x => x != -1))) := Lib.hid (by unfold stuckB; rw [hp, any_want hpo]; rfl)
    have hfl := freeL_len ts ws ts.length
    have ht24 := hpo.few
    rw [hp] at CF
    clear hp hpo
    go_enter Try.func19, Try.ntmps19
    go_wp2_with fail
    refine CF.out.mono ?_
    rintro e w1 ⟨hb, he⟩
    rw [if_pos trivial] at he
    obtain ⟨u, rfl, hu⟩ := he
    have HB := Lib.hid hb
    obtain ⟨A8, c8, rfl, _⟩ := own_is hu
    have CA := Lib.hid (anyWants_c A2 c2 ws w1 (H2.out.keep hb) (by omega))
    clear hb hu CF
    generalize (freeL ts ws ts.length).length = n at *
    generalize ws.any (fun x => x != -1) = R at *
    by_cases hn : n = 0
    · subst hn
      have HE2 : Hid (stuckB g ts ws = R) := Lib.hid (by rw [HE.out]; rfl)
      clear HE
      go_wp2_with fail
      refine CA.out.mono ?_
      rintro e w2 ⟨rfl, hb2⟩
      have HB2 := Lib.hid (HB.out.trans (hb2.mono HB.out.size))
      clear hb2 CA
      go_wp2
      go_ret
      exact ⟨gr_bool HE2.out.symm, HB2.out⟩
    · have HE2 : Hid (stuckB g ts ws = false) := Lib.hid (by rw [HE.out, decide_eq_false hn]; rfl)
      have hne : ((n : Int) == 0) = false := by rw [beq_eq_false_iff_ne]; omega
      clear HE CA
      go_wp2
      go_ret
      exact ⟨gr_bool HE2.out.symm, HB.out⟩
end Go.Proofs.Ytfgpenekmokdiaa
