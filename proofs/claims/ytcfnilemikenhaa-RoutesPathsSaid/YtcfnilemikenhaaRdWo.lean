/- Contract of reach's Without, for all graphs and marks. -/
import Derived.Test.YtcfnilemikenhaaRcWo
import Derived.Test.YtcfnilemikenhaaRdValid
namespace Go.Proofs.Ytcfnilemikenhaa
open Go Go.RowKit Fl

set_option maxRecDepth 100000 in
set_option maxHeartbeats 8000000 in
theorem devWithout_c (A B : Option Addr) (c d : Nat) (g : GraphD) (s : List Bool) (w : World) (hh : RowsAt w A g) (hs : Holds w B (s.map Bo)) (hl : g.length ≤ 1000000000000000000) (hr : ∀ r ∈ g, r.length ≤ 1000000000000000000) :
    Calls Try.prog 41 #[.slice A g.length c, .slice B s.length d] w (WoPost w (woL g s) (chkG g s.length)) := by
  have CC := Lib.hid (devCheck_c A B c d s.length g w hh hl hr)
  by_cases h0 : chkG g s.length = 0
  · have hv : validG g = true ∧ s.length = g.length := by
      rcases chkG_cases g s.length with h | h | h
      · exact h.2
      · omega
      · omega
    have HE : Hid (woL g s = woG g s) := Lib.hid (by unfold woL; rw [if_pos h0])
    rw [h0] at CC ⊢
    have hl24 := validG_len hv.1
    have HSL := Lib.hid hv.2
    have HG := Lib.hid hv.1
    have HS := Lib.hid hs
    have HH := Lib.hid hh
    have HR24 := Lib.hid (validG_short hv.1)
    have HW24 := Lib.hid (woF_short (s := s) hv.1)
    obtain ⟨i0, hi, hz0, hz1, hz2⟩ := info_parts Try.infoIntG
    clear hh hs hr h0 hv
    go_enter Try.func41, Try.ntmps41
    go_wp2_with fail
    refine CC.out.mono ?_
    rintro e w1 ⟨rfl, rfl⟩
    go_wp2_with (refine make_any _ rfl _ _ 22 25 (.slice none 0 0) 24 Try.underlying22 Try.infoRowG rfl (by decide) rfl .i64 .i64 _ _ g.length rfl rfl rfl rfl (by omega) ?_)
    intro w2 own2 hb2
    have HO2 : Hid (RowsD w2 w.heap.size (.slice (some ⟨w.heap.size, 0, none⟩) g.length g.length) (rowsF g.length (woF g s 0 0))) := Lib.hid (by rw [woF_start]; exact rowsD_new own2)
    obtain ⟨G, hG⟩ : ∃ G, G = w.heap.size := ⟨_, rfl⟩
    rw [← hG] at HO2 hb2 ⊢
    have HGG := Lib.hid hG
    clear own2 hG
    go_wp2
    go_loopw [23] (fun i wr => ∃ (v : Nat), i = .int .i64 v ∧ v ≤ g.length ∧ Hid (RowsD wr G (.slice (some ⟨G, 0, none⟩) g.length g.length) (rowsF g.length (woF g s v 0))) ∧ Below G w wr) (fun i _ => g.length - (intOf i).toNat)
    case atStart => exact ⟨0, rfl, Nat.zero_le _, HO2, hb2⟩
    case round =>
      clear HO2 hb2
      obtain ⟨v, rfl, hvl, HO, hb⟩ := hrel
      by_cases hvt : v < g.length
      · obtain ⟨bg, og, A2, c2, rfl, e1, h1⟩ := HH.out.one hvt
        have hbg : bg < G := by have h : bg < w.heap.size := World.block_lt_of_cell? _ _ e1; have := HGG.out; omega
        have HE1 : Hid (∀ W, Below G w W → W.cell? ⟨bg, og + v, none⟩ = some (.slice A2 g[v].length c2)) := Lib.hid (fun W hW => (hW.cell (p := ⟨bg, og + v, none⟩) hbg).trans e1)
        have hr24 := HR24.out _ (List.getElem_mem hvt)
        have hrow := rowG_at hvt
        have HX := Lib.hid (rowOk_row HG.out hvt)
        rw [hrow] at HX
        have HRow := Lib.hid hrow
        have H1 := Lib.hid h1
        have hvs : v < s.length := by have := HSL.out; omega
        obtain ⟨bs, os, rfl, hsc⟩ := HS.out.bo hvs
        have hbs : bs < G := by have h : bs < w.heap.size := World.block_lt_of_cell? _ _ hsc; have := HGG.out; omega
        have HSv : Hid (∀ W, Below G w W → W.cell? ⟨bs, os + v, none⟩ = some (.bool s[v])) := Lib.hid (fun W hW => (hW.cell (p := ⟨bs, os + v, none⟩) hbs).trans hsc)
        have HAv := Lib.hid (atB_at hvs)
        clear e1 h1 hrow hsc
        have e1r := HE1.out wr hb
        generalize g[v] = r at *
        generalize s[v] = sv at *
        go_wp2
        go_loopw [30] (fun i wr => ∃ (m : Nat), i = .int .i64 m ∧ m ≤ r.length ∧ Hid (RowsD wr G (.slice (some ⟨G, 0, none⟩) g.length g.length) (rowsF g.length (woF g s v m))) ∧ Below G w wr) (fun i _ => r.length - (intOf i).toNat)
        case atStart => exact ⟨0, rfl, Nat.zero_le _, HO, hb⟩
        case round =>
          clear HO hb
          obtain ⟨m, rfl, hm, HO, hb⟩ := hrel
          by_cases hmt : m < r.length
          · have ev := HSv.out wr hb
            obtain ⟨br, or_, rfl, e2⟩ := H1.out.iv hmt
            have hbr : br < G := by have h : br < w.heap.size := World.block_lt_of_cell? _ _ e2; have := HGG.out; omega
            have HE2 : Hid (∀ W, Below G w W → W.cell? ⟨br, or_ + m, none⟩ = some (.int .i64 r[m])) := Lib.hid (fun W hW => (hW.cell (p := ⟨br, or_ + m, none⟩) hbr).trans e2)
            obtain ⟨y0, y1, y2⟩ := HX.out r[m] (List.getElem_mem hmt)
            obtain ⟨y, hy⟩ := Int.eq_ofNat_of_zero_le y0
            have hmr : m < (rowG g v).length := by rw [HRow.out]; exact hmt
            have hyr : (rowG g v)[m] = (y : Int) := by
              have h : (rowG g v)[m]? = some r[m] := by rw [HRow.out]; exact List.getElem?_eq_getElem hmt
              rw [List.getElem?_eq_getElem hmr] at h
              injection h with h
              rw [h]; exact hy
            rw [hy] at HE2 y1
            have hyn : y < g.length := by omega
            have hys : y < s.length := by have := HSL.out; omega
            obtain ⟨bs2, os2, hBeq, es⟩ := HS.out.bo hys
            injection hBeq with hBeq
            injection hBeq with hB1 hB2
            subst hB1 hB2
            have esr : wr.cell? ⟨bs, os + y, none⟩ = some (.bool s[y]) := (hb.cell (p := ⟨bs, os + y, none⟩) hbs).trans es
            have HAy := Lib.hid (atB_at hys)
            have HYr := Lib.hid hyr
            have e2r := HE2.out wr hb
            clear e2 es y0 y1 y2 hy hyr
            generalize s[y] = sy at *
            have hcase : sv = true ∨ sv = false ∧ sy = true ∨ sv = false ∧ sy = false := by rcases sv with _ | _ <;> rcases sy with _ | _ <;> simp
            rcases hcase with rfl | ⟨rfl, rfl⟩ | ⟨rfl, rfl⟩
            · have HO2 : Hid (RowsD wr G (.slice (some ⟨G, 0, none⟩) g.length g.length) (rowsF g.length (woF g s v (m + 1)))) := Lib.hid (by rw [woF_skip (.inl HAv.out)]; exact HO.out)
              clear HYr HAy
              go_wp2
              go_roundw
              case rel => exact ⟨m + 1, by go_num, by omega, HO2, hb⟩
              case measure => simp [intOf]; omega
            · have HO2 : Hid (RowsD wr G (.slice (some ⟨G, 0, none⟩) g.length g.length) (rowsF g.length (woF g s v (m + 1)))) := Lib.hid (by rw [woF_skip (.inr fun _ => by rw [HYr.out, Int.toNat_natCast]; exact HAy.out)]; exact HO.out)
              clear HYr HAy
              go_wp2
              go_roundw
              case rel => exact ⟨m + 1, by go_num, by omega, HO2, hb⟩
              case measure => simp [intOf]; omega
            · have hvL : v < (rowsF g.length (woF g s v m)).length := by rw [rowsF_length]; exact hvt
              have HPut := Lib.hid (woF_put HAv.out hmr HYr.out (by rw [Int.toNat_natCast]; exact HAy.out) hvL)
              have hrl : (rowsF g.length (woF g s v m))[v].length ≤ 24 := by rw [rowsF_at]; exact HW24.out v m v
              obtain ⟨A5, c5, e5, f5, o5⟩ := HO.out.elem hvL
              have HFar := Lib.hid (fun (wn : World) (o : Obj) hg => HO.out.far (wn := wn) (o := o) hvL e5 hg)
              have HApp := Lib.hid (fun (wn : World) (gg c2 : Nat) (o : Obj) hg hat hown => HO.out.app (wn := wn) (gg := gg) (c2 := c2) (z := (y : Int)) (o := o) hvL e5 hg hat hown)
              rw [HPut.out] at HApp
              have HEl := Lib.hid (fun ob => (o5.alloc ob))
              clear HYr HAy HPut o5 HO
              generalize (rowsF g.length (woF g s v m))[v] = rv at *
              have hsz : G ≤ wr.heap.size := by have := hb.size; have := HGG.out; omega
              have HBase := Lib.hid (own_base (HEl.out (.cells #[] 0)))
              go_wp2_with (at_builtin; refine wpList_append_lies _ rfl _ _ 25 rfl G 3 i0 (.int .i64 0) 1 8 Try.underlying25 hi hz0 hz1 hz2 rfl (by omega) (.slice A5 rv.length c5) rv.length (rv.map Iv) (by rfl) (HEl.out _) ⟨_, 0, none⟩ 1 1 [Iv y] (by rfl) (by rfl) (World.news_of_block (cs := #[Iv y]) (t := 3) (fr := (0, 0)) (heap_alloc_new _ _)) (by simp [Value.oneCell']) (by omega) (by unfold maxLen; omega) (by omega) (by simp; omega) _ rfl ?_)
              intro gg cap wn1 hown1 hgrow hat hlt
              have HOW := Lib.hid (HApp.out _ _ _ _ hgrow (hat.imp id (fun h => by simpa using h)) hown1)
              have y1 := (HFar.out _ _ hgrow v).1
              have y2 := (HFar.out _ _ hgrow v).2
              have hbn : Below G w wn1 := ((hb.alloc hsz _).grown hgrow (by simp; omega) (fun k hk => HBase.out k hk))
              clear hown1 hgrow hat hlt
              go_wp2
              go_roundw
              case rel => exact ⟨m + 1, by go_num, by omega, HOW, below_put hbn (Nat.le_refl _)⟩
              case measure => simp [intOf]; omega
          · have HO2 : Hid (RowsD wr G (.slice (some ⟨G, 0, none⟩) g.length g.length) (rowsF g.length (woF g s (v + 1) 0))) := Lib.hid (by rw [← woF_next (m := m) (by rw [HRow.out]; omega)]; exact HO.out)
            go_wp2
            go_roundw
            case rel => exact ⟨v + 1, by go_num, by omega, HO2, hb⟩
            case measure => simp [intOf]; omega
      · obtain rfl : v = g.length := by omega
        have HO2 : Hid (RowsD wr G (.slice (some ⟨G, 0, none⟩) g.length g.length) (woG g s)) := Lib.hid (by rw [← woF_end]; exact HO.out)
        go_wp2
        go_ret2
        exact ⟨_, rfl, by rw [HE.out, ← HGG.out]; exact HO2.out.rows, by rw [← HGG.out]; exact hb⟩
  · have hcase : chkG g s.length = 19 ∨ chkG g s.length = 20 := by
      rcases chkG_cases g s.length with h | h | h
      · exact absurd h.1 h0
      · exact .inl h
      · exact .inr h
    have HE : Hid (woL g s = []) := Lib.hid (by unfold woL; rw [if_neg h0])
    clear hh hs hr h0
    rcases hcase with h | h
    all_goals
      rw [h] at CC ⊢
      clear h
      go_enter Try.func41, Try.ntmps41
      go_wp2_with fail
      refine CC.out.mono ?_
      rintro e w1 ⟨rfl, rfl⟩
      go_wp2
      go_ret2
      exact ⟨_, rfl, by rw [HE.out]; exact rowsOwn_nil _ _, Below.refl _ _⟩
end Go.Proofs.Ytcfnilemikenhaa
