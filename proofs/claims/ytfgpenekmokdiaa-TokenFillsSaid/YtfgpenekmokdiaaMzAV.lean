/- Joined texts. -/
import Derived.Test.YtfgpenekmokdiaaMzAN
import Derived.Test.YtfgpenekmokdiaaMzAU
import Derived.Test.YtfgpenekmokdiaaMzAP
namespace Go.Proofs.Ytfgpenekmokdiaa
open Go Go.RowKit Fl

set_option maxRecDepth 100000 in
set_option maxHeartbeats 8000000 in
theorem devReverse_c (A : Option Addr) (c : Nat) (g : GraphD) (w : World) (hh : RowsAt w A g) (hl : g.length ≤ 1000000000000000000) (hr : ∀ r ∈ g, r.length ≤ 1000000000000000000) :
    Calls Try.prog 72 #[.slice A g.length c] w (WoPost w (revL g) (revE g)) := by
  have CC := Lib.hid (devValid_c A c g w hh hl hr)
  rcases hv : validG g with _ | _
  · have HE : Hid (revL g = [] ∧ revE g = 20) := Lib.hid (by unfold revL revE; rw [hv]; exact ⟨rfl, rfl⟩)
    rw [hv] at CC
    clear hh hr hv
    go_enter Try.func72, Try.ntmps72
    go_wp2_with fail
    refine CC.out.mono ?_
    rintro e w1 ⟨rfl, rfl⟩
    go_wp2
    go_ret2
    exact ⟨_, by rw [HE.out.2]; rfl, by rw [HE.out.1]; exact rowsOwn_nil _ _, Below.refl _ _⟩
  · have HE : Hid (revL g = revG g ∧ revE g = 0) := Lib.hid (by unfold revL revE; rw [hv]; exact ⟨rfl, rfl⟩)
    rw [hv] at CC
    have hl24 := validG_len hv
    have HG := Lib.hid hv
    have HH := Lib.hid hh
    have HR24 := Lib.hid (validG_short hv)
    obtain ⟨i0, hi, hz0, hz1, hz2⟩ := info_parts Try.infoIntG
    clear hh hr hv
    go_enter Try.func72, Try.ntmps72
    go_wp2_with fail
    refine CC.out.mono ?_
    rintro e w1 ⟨rfl, rfl⟩
    go_wp2_with (refine make_any _ rfl _ _ 22 23 (.slice none 0 0) 24 Try.underlying22 Try.infoRowG rfl (by decide) rfl .i64 .i64 _ _ g.length rfl rfl rfl rfl (by omega) ?_)
    intro w2 own2 hb2
    have HO2 : Hid (RowsD w2 w.heap.size (.slice (some ⟨w.heap.size, 0, none⟩) g.length g.length) (rowsF g.length (revF g 0 0))) := Lib.hid (by rw [revF_start]; exact rowsD_new own2)
    obtain ⟨G, hG⟩ : ∃ G, G = w.heap.size := ⟨_, rfl⟩
    rw [← hG] at HO2 hb2 ⊢
    have HGG := Lib.hid hG
    clear own2 hG
    go_wp2
    go_loopw [17] (fun i wr => ∃ (v : Nat), i = .int .i64 v ∧ v ≤ g.length ∧ Hid (RowsD wr G (.slice (some ⟨G, 0, none⟩) g.length g.length) (rowsF g.length (revF g v 0))) ∧ Below G w wr) (fun i _ => g.length - (intOf i).toNat)
    case atStart => exact ⟨0, rfl, Nat.zero_le _, HO2, hb2⟩
    case round =>
      clear HO2 hb2
      obtain ⟨v, rfl, hvl, HO, hb⟩ := hrel
      by_cases hvt : v < g.length
      · obtain ⟨bg, og, A2, c2, rfl, e1, h1⟩ := HH.out.one hvt
        have hbg : bg < G := by have h : bg < w.heap.size := World.block_lt_of_cell? _ _ e1; have := HGG.out; omega
        have HE1 : Hid (∀ W, Below G w W → W.cell? ⟨bg, og + v, none⟩ = some (.slice A2 g[v].length c2)) := Lib.hid (fun W hW => (hW.cell (p := ⟨bg, og + v, none⟩) hbg).trans e1)
        have hr24 := HR24.out _ (List.getElem_mem hvt)
        have hrow := rowG_at hvt
        have HX := Lib.hid (rowOk_row HG.out hvt)
        rw [hrow] at HX
        have HRow := Lib.hid hrow
        have H1 := Lib.hid h1
        clear e1 h1 hrow
        have e1r := HE1.out wr hb
        generalize g[v] = r at *
        go_wp2
        go_loopw [24] (fun i wr => ∃ (m : Nat), i = .int .i64 m ∧ m ≤ r.length ∧ Hid (RowsD wr G (.slice (some ⟨G, 0, none⟩) g.length g.length) (rowsF g.length (revF g v m))) ∧ Below G w wr) (fun i _ => r.length - (intOf i).toNat)
        case atStart => exact ⟨0, rfl, Nat.zero_le _, HO, hb⟩
        case round =>
          clear HO hb
          obtain ⟨m, rfl, hm, HO, hb⟩ := hrel
          by_cases hmt : m < r.length
          · obtain ⟨br, or_, rfl, e2⟩ := H1.out.iv hmt
            have hbr : br < G := by have h : br < w.heap.size := World.block_lt_of_cell? _ _ e2; have := HGG.out; omega
            have HE2 : Hid (∀ W, Below G w W → W.cell? ⟨br, or_ + m, none⟩ = some (.int .i64 r[m])) := Lib.hid (fun W hW => (hW.cell (p := ⟨br, or_ + m, none⟩) hbr).trans e2)
            obtain ⟨y0, y1, y2⟩ := HX.out r[m] (List.getElem_mem hmt)
            obtain ⟨y, hy⟩ := Int.eq_ofNat_of_zero_le y0
            have hmr : m < (rowG g v).length := by rw [HRow.out]; exact hmt
            have hyr : (rowG g v)[m] = (y : Int) := by
              have h : (rowG g v)[m]? = some r[m] := by rw [HRow.out]; exact List.getElem?_eq_getElem hmt
              rw [List.getElem?_eq_getElem hmr] at h
              injection h with h
              rw [h]; exact hy
            rw [hy] at HE2 y1
            have hyn : y < g.length := by omega
            have HYr := Lib.hid hyr
            have e2r := HE2.out wr hb
            clear e2 y0 y1 y2 hy hyr
            have hvL : y < (rowsF g.length (revF g v m)).length := by rw [rowsF_length]; exact hyn
            have HPut := Lib.hid (revF_put HG.out hvt hmr HYr.out hvL)
            have hrl : (rowsF g.length (revF g v m))[y].length ≤ 24 := by rw [rowsF_at]; have := revF_short g v m y; omega
            obtain ⟨A5, c5, e5, f5, o5⟩ := HO.out.elem hvL
            have HFar := Lib.hid (fun (wn : World) (o : Obj) hg => HO.out.far (wn := wn) (o := o) hvL e5 hg)
            have HApp := Lib.hid (fun (wn : World) (gg c2 : Nat) (o : Obj) hg hat hown => HO.out.app (wn := wn) (gg := gg) (c2 := c2) (z := (v : Int)) (o := o) hvL e5 hg hat hown)
            rw [HPut.out] at HApp
            have HEl := Lib.hid (fun ob => (o5.alloc ob))
            clear HYr HPut o5 HO
            generalize (rowsF g.length (revF g v m))[y] = rv at *
            have hsz : G ≤ wr.heap.size := by have := hb.size; have := HGG.out; omega
            have HBase := Lib.hid (own_base (HEl.out (.cells #[] 0)))
            go_wp2_with (at_builtin; refine wpList_append_lies _ rfl _ _ 23 rfl G 3 i0 (.int .i64 0) 1 8 Try.underlying23 hi hz0 hz1 hz2 rfl (by omega) (.slice A5 rv.length c5) rv.length (rv.map Iv) (by rfl) (HEl.out _) ⟨_, 0, none⟩ 1 1 [Iv v] (by rfl) (by rfl) (World.news_of_block (cs := #[Iv v]) (t := 3) (fr := (0, 0)) (heap_alloc_new _ _)) (by simp [Value.oneCell']) (by omega) (by unfold maxLen; omega) (by omega) (by simp; omega) _ rfl ?_)
            intro gg cap wn1 hown1 hgrow hat hlt
            have HOW := Lib.hid (HApp.out _ _ _ _ hgrow (hat.imp id (fun h => by simpa using h)) hown1)
            have y1 := (HFar.out _ _ hgrow y).1
            have y2 := (HFar.out _ _ hgrow y).2
            have hbn : Below G w wn1 := ((hb.alloc hsz _).grown hgrow (by simp; omega) (fun k hk => HBase.out k hk))
            clear hown1 hgrow hat hlt
            go_wp2
            go_roundw
            case rel => exact ⟨m + 1, by go_num, by omega, HOW, below_put hbn (Nat.le_refl _)⟩
            case measure => simp [intOf]; omega
          · have HO2 : Hid (RowsD wr G (.slice (some ⟨G, 0, none⟩) g.length g.length) (rowsF g.length (revF g (v + 1) 0))) := Lib.hid (by rw [← revF_next (m := m) (by rw [HRow.out]; omega)]; exact HO.out)
            go_wp2
            go_roundw
            case rel => exact ⟨v + 1, by go_num, by omega, HO2, hb⟩
            case measure => simp [intOf]; omega
      · obtain rfl : v = g.length := by omega
        have HO2 : Hid (RowsD wr G (.slice (some ⟨G, 0, none⟩) g.length g.length) (revG g)) := Lib.hid (by rw [← revF_end]; exact HO.out)
        go_wp2
        go_ret2
        exact ⟨_, by rw [HE.out.2]; rfl, by rw [HE.out.1, ← HGG.out]; exact HO2.out.rows, by rw [← HGG.out]; exact hb⟩
end Go.Proofs.Ytfgpenekmokdiaa
namespace Go.Proofs.Ytfgpenekmokdiaa
open Go Go.RowKit Fl

set_option maxRecDepth 100000 in
set_option maxHeartbeats 8000000 in
theorem devWithout_c (A B : Option Addr) (c d : Nat) (g : GraphD) (s : List Bool) (w : World) (hh : RowsAt w A g) (hs : Holds w B (s.map Bo)) (hl : g.length ≤ 1000000000000000000) (hr : ∀ r ∈ g, r.length ≤ 1000000000000000000) :
    Calls Try.prog 71 #[.slice A g.length c, .slice B s.length d] w (WoPost w (woL g s) (chkG g s.length)) := by
  have CC := Lib.hid (devCheck_c A B c d s.length g w hh hl hr)
  by_cases h0 : chkG g s.length = 0
  · have hv : validG g = true ∧ s.length = g.length := by
      rcases chkG_cases g s.length with h | h | h
      · exact h.2
      · omega
      · omega
    have HE : Hid (woL g s = woG g s) := Lib.hid (by unfold woL; rw [if_pos h0])
    rw [h0] at CC ⊢
    have hl24 := validG_len hv.1
    have HSL := Lib.hid hv.2
    have HG := Lib.hid hv.1
    have HS := Lib.hid hs
    have HH := Lib.hid hh
    have HR24 := Lib.hid (validG_short hv.1)
    have HW24 := Lib.hid (woF_short (s := s) hv.1)
    obtain ⟨i0, hi, hz0, hz1, hz2⟩ := info_parts Try.infoIntG
    clear hh hs hr h0 hv
    go_enter Try.func71, Try.ntmps71
    go_wp2_with fail
    refine CC.out.mono ?_
    rintro e w1 ⟨rfl, rfl⟩
    go_wp2_with (refine make_any _ rfl _ _ 22 23 (.slice none 0 0) 24 Try.underlying22 Try.infoRowG rfl (by decide) rfl .i64 .i64 _ _ g.length rfl rfl rfl rfl (by omega) ?_)
    intro w2 own2 hb2
    have HO2 : Hid (RowsD w2 w.heap.size (.slice (some ⟨w.heap.size, 0, none⟩) g.length g.length) (rowsF g.length (woF g s 0 0))) := Lib.hid (by rw [woF_start]; exact rowsD_new own2)
    obtain ⟨G, hG⟩ : ∃ G, G = w.heap.size := ⟨_, rfl⟩
    rw [← hG] at HO2 hb2 ⊢
    have HGG := Lib.hid hG
    clear own2 hG
    go_wp2
    go_loopw [23] (fun i wr => ∃ (v : Nat), i = .int .i64 v ∧ v ≤ g.length ∧ Hid (RowsD wr G (.slice (some ⟨G, 0, none⟩) g.length g.length) (rowsF g.length (woF g s v 0))) ∧ Below G w wr) (fun i _ => g.length - (intOf i).toNat)
    case atStart => exact ⟨0, rfl, Nat.zero_le _, HO2, hb2⟩
    case round =>
      clear HO2 hb2
      obtain ⟨v, rfl, hvl, HO, hb⟩ := hrel
      by_cases hvt : v < g.length
      · obtain ⟨bg, og, A2, c2, rfl, e1, h1⟩ := HH.out.one hvt
        have hbg : bg < G := by have h : bg < w.heap.size := World.block_lt_of_cell? _ _ e1; have := HGG.out; omega
        have HE1 : Hid (∀ W, Below G w W → W.cell? ⟨bg, og + v, none⟩ = some (.slice A2 g[v].length c2)) := Lib.hid (fun W hW => (hW.cell (p := ⟨bg, og + v, none⟩) hbg).trans e1)
        have hr24 := HR24.out _ (List.getElem_mem hvt)
        have hrow := rowG_at hvt
        have HX := Lib.hid (rowOk_row HG.out hvt)
        rw [hrow] at HX
        have HRow := Lib.hid hrow
        have H1 := Lib.hid h1
        have hvs : v < s.length := by have := HSL.out; omega
        obtain ⟨bs, os, rfl, hsc⟩ := HS.out.bo hvs
        have hbs : bs < G := by have h : bs < w.heap.size := World.block_lt_of_cell? _ _ hsc; have := HGG.out; omega
        have HSv : Hid (∀ W, Below G w W → W.cell? ⟨bs, os + v, none⟩ = some (.bool s[v])) := Lib.hid (fun W hW => (hW.cell (p := ⟨bs, os + v, none⟩) hbs).trans hsc)
        have HAv := Lib.hid (atB_at hvs)
        clear e1 h1 hrow hsc
        have e1r := HE1.out wr hb
        generalize g[v] = r at *
        generalize s[v] = sv at *
        go_wp2
        go_loopw [30] (fun i wr => ∃ (m : Nat), i = .int .i64 m ∧ m ≤ r.length ∧ Hid (RowsD wr G (.slice (some ⟨G, 0, none⟩) g.length g.length) (rowsF g.length (woF g s v m))) ∧ Below G w wr) (fun i _ => r.length - (intOf i).toNat)
        case atStart => exact ⟨0, rfl, Nat.zero_le _, HO, hb⟩
        case round =>
          clear HO hb
          obtain ⟨m, rfl, hm, HO, hb⟩ := hrel
          by_cases hmt : m < r.length
          · have ev := HSv.out wr hb
            obtain ⟨br, or_, rfl, e2⟩ := H1.out.iv hmt
            have hbr : br < G := by have h : br < w.heap.size := World.block_lt_of_cell? _ _ e2; have := HGG.out; omega
            have HE2 : Hid (∀ W, Below G w W → W.cell? ⟨br, or_ + m, none⟩ = some (.int .i64 r[m])) := Lib.hid (fun W hW => (hW.cell (p := ⟨br, or_ + m, none⟩) hbr).trans e2)
            obtain ⟨y0, y1, y2⟩ := HX.out r[m] (List.getElem_mem hmt)
            obtain ⟨y, hy⟩ := Int.eq_ofNat_of_zero_le y0
            have hmr : m < (rowG g v).length := by rw [HRow.out]; exact hmt
            have hyr : (rowG g v)[m] = (y : Int) := by
              have h : (rowG g v)[m]? = some r[m] := by rw [HRow.out]; exact List.getElem?_eq_getElem hmt
              rw [List.getElem?_eq_getElem hmr] at h
              injection h with h
              rw [h]; exact hy
            rw [hy] at HE2 y1
            have hyn : y < g.length := by omega
            have hys : y < s.length := by have := HSL.out; omega
            obtain ⟨bs2, os2, hBeq, es⟩ := HS.out.bo hys
            injection hBeq with hBeq
            injection hBeq with hB1 hB2
            subst hB1 hB2
            have esr : wr.cell? ⟨bs, os + y, none⟩ = some (.bool s[y]) := (hb.cell (p := ⟨bs, os + y, none⟩) hbs).trans es
            have HAy := Lib.hid (atB_at hys)
            have HYr := Lib.hid hyr
            have e2r := HE2.out wr hb
            clear e2 es y0 y1 y2 hy hyr
            generalize s[y] = sy at *
            have hcase : sv = true ∨ sv = false ∧ sy = true ∨ sv = false ∧ sy = false := by rcases sv with _ | _ <;> rcases sy with _ | _ <;> simp
            rcases hcase with rfl | ⟨rfl, rfl⟩ | ⟨rfl, rfl⟩
            · have HO2 : Hid (RowsD wr G (.slice (some ⟨G, 0, none⟩) g.length g.length) (rowsF g.length (woF g s v (m + 1)))) := Lib.hid (by rw [woF_skip (.inl HAv.out)]; exact HO.out)
              clear HYr HAy
              go_wp2
              go_roundw
              case rel => exact ⟨m + 1, by go_num, by omega, HO2, hb⟩
              case measure => simp [intOf]; omega
            · have HO2 : Hid (RowsD wr G (.slice (some ⟨G, 0, none⟩) g.length g.length) (rowsF g.length (woF g s v (m + 1)))) := Lib.hid (by rw [woF_skip (.inr fun _ => by rw [HYr.out, Int.toNat_natCast]; exact HAy.out)]; exact HO.out)
              clear HYr HAy
              go_wp2
              go_roundw
              case rel => exact ⟨m + 1, by go_num, by omega, HO2, hb⟩
              case measure => simp [intOf]; omega
            · have hvL : v < (rowsF g.length (woF g s v m)).length := by rw [rowsF_length]; exact hvt
              have HPut := Lib.hid (woF_put HAv.out hmr HYr.out (by rw [Int.toNat_natCast]; exact HAy.out) hvL)
              have hrl : (rowsF g.length (woF g s v m))[v].length ≤ 24 := by rw [rowsF_at]; exact HW24.out v m v
              obtain ⟨A5, c5, e5, f5, o5⟩ := HO.out.elem hvL
              have HFar := Lib.hid (fun (wn : World) (o : Obj) hg => HO.out.far (wn := wn) (o := o) hvL e5 hg)
              have HApp := Lib.hid (fun (wn : World) (gg c2 : Nat) (o : Obj) hg hat hown => HO.out.app (wn := wn) (gg := gg) (c2 := c2) (z := (y : Int)) (o := o) hvL e5 hg hat hown)
              rw [HPut.out] at HApp
              have HEl := Lib.hid (fun ob => (o5.alloc ob))
              clear HYr HAy HPut o5 HO
              generalize (rowsF g.length (woF g s v m))[v] = rv at *
              have hsz : G ≤ wr.heap.size := by have := hb.size; have := HGG.out; omega
              have HBase := Lib.hid (own_base (HEl.out (.cells #[] 0)))
              go_wp2_with (at_builtin; refine wpList_append_lies _ rfl _ _ 23 rfl G 3 i0 (.int .i64 0) 1 8 Try.underlying23 hi hz0 hz1 hz2 rfl (by omega) (.slice A5 rv.length c5) rv.length (rv.map Iv) (by rfl) (HEl.out _) ⟨_, 0, none⟩ 1 1 [Iv y] (by rfl) (by rfl) (World.news_of_block (cs := #[Iv y]) (t := 3) (fr := (0, 0)) (heap_alloc_new _ _)) (by simp [Value.oneCell']) (by omega) (by unfold maxLen; omega) (by omega) (by simp; omega) _ rfl ?_)
              intro gg cap wn1 hown1 hgrow hat hlt
              have HOW := Lib.hid (HApp.out _ _ _ _ hgrow (hat.imp id (fun h => by simpa using h)) hown1)
              have y1 := (HFar.out _ _ hgrow v).1
              have y2 := (HFar.out _ _ hgrow v).2
              have hbn : Below G w wn1 := ((hb.alloc hsz _).grown hgrow (by simp; omega) (fun k hk => HBase.out k hk))
              clear hown1 hgrow hat hlt
              go_wp2
              go_roundw
              case rel => exact ⟨m + 1, by go_num, by omega, HOW, below_put hbn (Nat.le_refl _)⟩
              case measure => simp [intOf]; omega
          · have HO2 : Hid (RowsD wr G (.slice (some ⟨G, 0, none⟩) g.length g.length) (rowsF g.length (woF g s (v + 1) 0))) := Lib.hid (by rw [← woF_next (m := m) (by rw [HRow.out]; omega)]; exact HO.out)
            go_wp2
            go_roundw
            case rel => exact ⟨v + 1, by go_num, by omega, HO2, hb⟩
            case measure => simp [intOf]; omega
      · obtain rfl : v = g.length := by omega
        have HO2 : Hid (RowsD wr G (.slice (some ⟨G, 0, none⟩) g.length g.length) (woG g s)) := Lib.hid (by rw [← woF_end]; exact HO.out)
        go_wp2
        go_ret2
        exact ⟨_, rfl, by rw [HE.out, ← HGG.out]; exact HO2.out.rows, by rw [← HGG.out]; exact hb⟩
  · have hcase : chkG g s.length = 19 ∨ chkG g s.length = 20 := by
      rcases chkG_cases g s.length with h | h | h
      · exact absurd h.1 h0
      · exact .inl h
      · exact .inr h
    have HE : Hid (woL g s = []) := Lib.hid (by unfold woL; rw [if_neg h0])
    clear hh hs hr h0
    rcases hcase with h | h
    all_goals
      rw [h] at CC ⊢
      clear h
      go_enter Try.func71, Try.ntmps71
      go_wp2_with fail
      refine CC.out.mono ?_
      rintro e w1 ⟨rfl, rfl⟩
      go_wp2
      go_ret2
      exact ⟨_, rfl, by rw [HE.out]; exact rowsOwn_nil _ _, Below.refl _ _⟩
end Go.Proofs.Ytfgpenekmokdiaa
namespace Go.Proofs.Ytfgpenekmokdiaa
open Go Go.RowKit Fl

set_option maxRecDepth 100000 in
set_option maxHeartbeats 4000000 in
theorem both_c (A B : Option Addr) (c d n : Nat) (g : GraphD) (s : List Bool) (w : World) (hh : RowsAt w A g) (hs : Holds w B (s.map Bo)) (hg : validG g = true) (hsl : s.length = n) (hn : g.length = n) :
    Calls Try.prog 54 #[.slice A n c, .slice B n d] w fun e w' => ∃ A1 c1 A2 c2, e = .returned (.tuple #[.slice A1 n c1, .slice A2 n c2, .int .i64 0]) ∧ RowsAt w' A1 (woG g s) ∧ RowsAt w' A2 (revG (woG g s)) ∧ Below w.heap.size w w' := by
  have hsz := Sized.valid hg
  have h0 := chkG_ok (m := s.length) hg (by omega)
  have C1 := devWithout_c A B c d g s w hh hs hsz.1 hsz.2
  have hL : woL g s = woG g s := by unfold woL; rw [if_pos h0]
  rw [hL, h0, hsl, hn] at C1
  have hv := woG_valid (s := s) hg
  have hsv := Sized.valid hv
  have hwl : (woG g s).length = n := by rw [woG_length, hn]
  have C2 := fun (A1 : Option Addr) (c1 : Nat) (w1 : World) (h1 : RowsAt w1 A1 (woG g s)) => devReverse_c A1 c1 (woG g s) w1 h1 hsv.1 hsv.2
  have hR : revL (woG g s) = revG (woG g s) := by unfold revL; rw [if_pos hv]
  have hE : revE (woG g s) = 0 := by unfold revE; rw [if_pos hv]
  rw [hR, hE, hwl] at C2
  have CA := Lib.hid C1
  have CB := Lib.hid C2
  have HL1 := Lib.hid hwl
  have HL2 : Hid ((revG (woG g s)).length = n) := Lib.hid (by rw [revG_length, hwl])
  clear C1 C2 hh hs hg hsl hn hsz h0 hL hv hsv hR hE hwl
  generalize revG (woG g s) = R at *
  generalize woG g s = O at *
  go_enter Try.func54, Try.ntmps54
  go_wp2_with fail
  refine CA.out.mono ?_
  rintro e w1 ⟨u, rfl, own1, hb1⟩
  obtain ⟨A1, c1, rfl, r1⟩ := own1.at_
  rw [HL1.out]
  have H1 := Lib.hid r1
  have HB1 := Lib.hid hb1
  clear own1 r1 hb1 CA
  go_wp2_with fail
  refine (CB.out A1 c1 w1 H1.out).mono ?_
  rintro e w2 ⟨u, rfl, own2, hb2⟩
  obtain ⟨A2, c2, rfl, r2⟩ := own2.at_
  rw [HL2.out]
  have H2 := Lib.hid r2
  have H12 := Lib.hid (H1.out.keep hb2)
  have HB2 := Lib.hid (HB1.out.trans (hb2.mono HB1.out.size))
  clear own2 r2 hb2 CB H1 HB1
  go_wp2
  go_ret3
  exact ⟨_, _, _, _, rfl, H12.out, H2.out, HB2.out⟩
set_option maxRecDepth 100000 in
set_option maxHeartbeats 4000000 in
theorem bothE_c (A B : Option Addr) (c d : Nat) (g : GraphD) (s : List Bool) (w : World) (hh : RowsAt w A g) (hs : Holds w B (s.map Bo)) (hz : Sized g) (h0 : chkG g s.length ≠ 0) :
    Calls Try.prog 54 #[.slice A g.length c, .slice B s.length d] w fun e w' => e = .returned (.tuple #[.slice none 0 0, .slice none 0 0, .int .i64 (chkG g s.length)]) ∧ Below w.heap.size w w' := by
  have C1 := devWithout_c A B c d g s w hh hs hz.1 hz.2
  have CA := Lib.hid C1
  have hcase : chkG g s.length = 19 ∨ chkG g s.length = 20 := by
    rcases chkG_cases g s.length with h | h | h
    · exact absurd h.1 h0
    · exact .inl h
    · exact .inr h
  clear C1 hh hs hz h0
  rcases hcase with h | h
  all_goals
    rw [h] at CA ⊢
    clear h
    go_enter Try.func54, Try.ntmps54
    go_wp2_with fail
    refine CA.out.mono ?_
    rintro e w1 ⟨u, rfl, own1, hb1⟩
    obtain ⟨A1, c1, rfl, _⟩ := own1.at_
    have HB1 := Lib.hid hb1
    clear own1 hb1 CA
    go_wp2
    go_ret3
    exact ⟨rfl, HB1.out⟩
/-- The first shortest closed walk from a vertex. -/
theorem firstW_c (A B : Option Addr) (c d n : Nat) (g : GraphD) (s : List Bool) (v : Nat) (w : World) (ha : RowsAt w A (woG g s)) (hb : RowsAt w B (revG (woG g s))) (hg : validG g = true) (hn : g.length = n) (hv : v < n) :
    Calls Try.prog 55 #[.slice A n c, .slice B n d, .int .i64 v] w fun e w' => ∃ u, e = .returned u ∧ w'.ownsRow w.heap.size 3 1 u (thrF g s v).length ((thrF g s v).map Iv) ∧ Below w.heap.size w w' := by
  have hvg : v < g.length := by omega
  have h := walk_c A B c d (woG g s) (thrF g s v) v w ha hb (woG_valid hg) (by rw [woG_length]; exact hvg) (thrF_short hg hvg) (fun M hM h0 => thr_none hg hvg hM h0) (fun M F hM h0 => thr_walk hg hvg hM h0)
  rw [woG_length, hn] at h
  exact h
set_option maxRecDepth 100000 in
set_option maxHeartbeats 4000000 in
theorem devGirth_c (A B : Option Addr) (c d : Nat) (g : GraphD) (s : List Bool) (w : World) (hh : RowsAt w A g) (hs : Holds w B (s.map Bo)) (hz : Sized g) :
    Calls Try.prog 30 #[.slice A g.length c, .slice B s.length d] w (WalkPost w (girL g s) (chkG g s.length)) := by
  by_cases h0 : chkG g s.length = 0
  · have hv : validG g = true ∧ s.length = g.length := by
      rcases chkG_cases g s.length with h | h | h
      · exact h.2
      · omega
      · omega
    have hl24 := validG_len hv.1
    have CC := Lib.hid (both_c A B c d g.length g s w hh hs hv.1 hv.2 rfl)
    have hsl := hv.2
    have CF := Lib.hid (fun (A1 A2 : Option Addr) (c1 c2 : Nat) (w1 : World) (h1 : RowsAt w1 A1 (woG g s)) (h2 : RowsAt w1 A2 (revG (woG g s))) (v : Nat) (hvn : v < g.length) => firstW_c A1 A2 c1 c2 g.length g s v w1 h1 h2 hv.1 rfl hvn)
    have HSh := Lib.hid (fun k hk => girK_short (s := s) hv.1 k hk)
    have HTh := Lib.hid (fun v hvv => thrF_short (s := s) (v := v) hv.1 hvv)
    have HF : Hid (girL g s = girK g s g.length) := Lib.hid (by unfold girL; rw [if_pos h0]; rfl)
    rw [h0, hsl]
    clear hh hs hz hsl h0 hv
    generalize girL g s = res at *
    go_enter Try.func30, Try.ntmps30
    go_wp2_with fail
    refine CC.out.mono ?_
    rintro e w1 ⟨A1, c1, A2, c2, rfl, r1, r2, hb1⟩
    have R1 := Lib.hid r1
    have R2 := Lib.hid r2
    have HB1 := Lib.hid hb1
    clear r1 r2 hb1 CC
    go_wp2
    go_loopw [10, 25] (fun u i wr => ∃ (k : Nat), i = .int .i64 k ∧ k ≤ g.length ∧ Hid (wr.ownsRow w.heap.size 3 1 u (girK g s k).length ((girK g s k).map Iv)) ∧ Hid (Below w1.heap.size w1 wr)) (fun _ i _ => g.length - (intOf i).toNat)
    case atStart => exact ⟨0, rfl, Nat.zero_le _, Lib.hid (World.ownsRow_nil _ _ _ _), Lib.hid (Below.refl _ _)⟩
    case round =>
      obtain ⟨k, rfl, hk, HO, HB⟩ := hrel
      have hbl := HSh.out k hk
      by_cases hlt : k < g.length
      · have HS := Lib.hid (girK_succ g s k)
        have htl := HTh.out k hlt
        have HC := Lib.hid (CF.out A1 A2 c1 c2 wr (R1.out.keep HB.out) (R2.out.keep HB.out) k hlt)
        have hsz := HB.out.size
        have hsz1 := HB1.out.size
        generalize thrF g s k = t at *
        generalize hbo : girK g s k = bo at *
        clear hbo
        obtain ⟨AB, cB, rfl, _⟩ := own_is HO.out
        go_wp2_with fail
        refine HC.out.mono ?_
        rintro e w2 ⟨vt, rfl, ownT, hb2⟩
        obtain ⟨AT, cT, rfl, _⟩ := own_is ownT
        have HT := Lib.hid ownT
        have HB2 := Lib.hid (HB.out.trans (hb2.mono hsz))
        have HO2 := Lib.hid (ownsRow_below HO.out hb2)
        clear HC ownT hb2 HO HB
        by_cases hsel : 0 < t.length ∧ (bo.length = 0 ∨ t.length < bo.length)
        · rw [if_pos hsel] at HS
          have HT2 := Lib.hid (ownsRow_base HT.out (Nat.le_trans hsz1 hsz))
          have hcase : decide (0 < t.length) = true ∧ (((bo.length : Int) == 0) = true ∨ ((bo.length : Int) == 0) = false ∧ decide (t.length < bo.length) = true) := by
            refine ⟨by simpa using hsel.1, ?_⟩
            rcases Nat.eq_zero_or_pos bo.length with h | h
            · left; rw [h]; rfl
            · right; exact ⟨by rw [beq_eq_false_iff_ne]; omega, by have := hsel.2; simp; omega⟩
          obtain ⟨hd1, hd2⟩ := hcase
          have hpos := hsel.1
          clear hsel
          rcases hd2 with hd2 | ⟨hd2, hd3⟩
          all_goals
            go_wp2
            go_roundw
            case rel => exact ⟨k + 1, by go_num, by omega, Lib.hid (by rw [HS.out]; exact HT2.out), HB2⟩
            case measure => simp [intOf]; omega
        · rw [if_neg hsel] at HS
          have hcase : decide (0 < t.length) = false ∨ decide (0 < t.length) = true ∧ ((bo.length : Int) == 0) = false ∧ decide (t.length < bo.length) = false := by
            rcases Nat.eq_zero_or_pos t.length with h | h
            · left; rw [decide_eq_false_iff_not]; omega
            · right; exact ⟨by simpa using h, by rw [beq_eq_false_iff_ne]; intro e; exact hsel ⟨h, .inl (by omega)⟩, by simp; rcases Nat.lt_or_ge t.length bo.length with h2 | h2; exact absurd ⟨h, .inr h2⟩ hsel; exact h2⟩
          clear hsel
          rcases hcase with hd1 | ⟨hd1, hd2, hd3⟩
          all_goals
            go_wp2
            go_roundw
            case rel => exact ⟨k + 1, by go_num, by omega, Lib.hid (by rw [HS.out]; exact HO2.out), HB2⟩
            case measure => simp [intOf]; omega
      · obtain rfl : k = g.length := by omega
        rw [← HF.out] at HO hbl
        obtain ⟨AB, cB, rfl, _⟩ := own_is HO.out
        have HB3 := Lib.hid (HB1.out.trans (HB.out.mono HB1.out.size))
        go_wp2
        go_ret3
        exact ⟨_, rfl, HO.out, HB3.out⟩
  · have CE := Lib.hid (bothE_c A B c d g s w hh hs hz h0)
    have HL : Hid (girL g s = []) := Lib.hid (by unfold girL; rw [if_neg h0])
    have hcase : chkG g s.length = 19 ∨ chkG g s.length = 20 := by
      rcases chkG_cases g s.length with h | h | h
      · exact absurd h.1 h0
      · exact .inl h
      · exact .inr h
    clear hh hs hz h0
    rcases hcase with h | h
    all_goals
      rw [h] at CE ⊢
      clear h
      go_enter Try.func30, Try.ntmps30
      go_wp2_with fail
      refine CE.out.mono ?_
      rintro e w1 ⟨rfl, hb1⟩
      have HB1 := Lib.hid hb1
      clear hb1 CE
      go_wp2
      go_ret3
      exact ⟨_, by rw [HL.out]; rfl, by rw [HL.out]; exact World.ownsRow_nil _ _ _ _, HB1.out⟩
theorem devGirth_k : DevGirth := fun A B c d g s w hh hs hz => (devGirth_c A B c d g s w hh hs hz).mono fun _ _ h => h.res
end Go.Proofs.Ytfgpenekmokdiaa
