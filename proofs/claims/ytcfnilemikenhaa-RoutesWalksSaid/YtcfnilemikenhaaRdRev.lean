/- Contract of reach's Reverse, for all graphs. -/
import Derived.Test.YtcfnilemikenhaaRcRevP
import Derived.Test.YtcfnilemikenhaaRdValid
namespace Go.Proofs.Ytcfnilemikenhaa
open Go Go.RowKit Fl

set_option maxRecDepth 100000 in
set_option maxHeartbeats 8000000 in
theorem devReverse_c (A : Option Addr) (c : Nat) (g : GraphD) (w : World) (hh : RowsAt w A g) (hl : g.length ≤ 1000000000000000000) (hr : ∀ r ∈ g, r.length ≤ 1000000000000000000) :
    Calls Try.prog 46 #[.slice A g.length c] w (WoPost w (revL g) (revE g)) := by
  have CC := Lib.hid (devValid_c A c g w hh hl hr)
  rcases hv : validG g with _ | _
  · have HE : Hid (revL g = [] ∧ revE g = 20) := Lib.hid (by unfold revL revE; rw [hv]; exact ⟨rfl, rfl⟩)
    rw [hv] at CC
    clear hh hr hv
    go_enter Try.func46, Try.ntmps46
    go_wp2_with fail
    refine CC.out.mono ?_
    rintro e w1 ⟨rfl, rfl⟩
    go_wp2
    go_ret2
    exact ⟨_, by rw [HE.out.2]; rfl, by rw [HE.out.1]; exact rowsOwn_nil _ _, Below.refl _ _⟩
  · have HE : Hid (revL g = revG g ∧ revE g = 0) := Lib.hid (by unfold revL revE; rw [hv]; exact ⟨rfl, rfl⟩)
    rw [hv] at CC
    have hl24 := validG_len hv
    have HG := Lib.hid hv
    have HH := Lib.hid hh
    have HR24 := Lib.hid (validG_short hv)
    obtain ⟨i0, hi, hz0, hz1, hz2⟩ := info_parts Try.infoIntG
    clear hh hr hv
    go_enter Try.func46, Try.ntmps46
    go_wp2_with fail
    refine CC.out.mono ?_
    rintro e w1 ⟨rfl, rfl⟩
    go_wp2_with (refine make_any _ rfl _ _ 22 25 (.slice none 0 0) 24 Try.underlying22 Try.infoRowG rfl (by decide) rfl .i64 .i64 _ _ g.length rfl rfl rfl rfl (by omega) ?_)
    intro w2 own2 hb2
    have HO2 : Hid (RowsD w2 w.heap.size (.slice (some ⟨w.heap.size, 0, none⟩) g.length g.length) (rowsF g.length (revF g 0 0))) := Lib.hid (by rw [revF_start]; exact rowsD_new own2)
    obtain ⟨G, hG⟩ : ∃ G, G = w.heap.size := ⟨_, rfl⟩
    rw [← hG] at HO2 hb2 ⊢
    have HGG := Lib.hid hG
    clear own2 hG
    go_wp2
    go_loopw [17] (fun i wr => ∃ (v : Nat), i = .int .i64 v ∧ v ≤ g.length ∧ Hid (RowsD wr G (.slice (some ⟨G, 0, none⟩) g.length g.length) (rowsF g.length (revF g v 0))) ∧ Below G w wr) (fun i _ => g.length - (intOf i).toNat)
    case atStart => exact ⟨0, rfl, Nat.zero_le _, HO2, hb2⟩
    case round =>
      clear HO2 hb2
      obtain ⟨v, rfl, hvl, HO, hb⟩ := hrel
      by_cases hvt : v < g.length
      · obtain ⟨bg, og, A2, c2, rfl, e1, h1⟩ := HH.out.one hvt
        have hbg : bg < G := by have h : bg < w.heap.size := World.block_lt_of_cell? _ _ e1; have := HGG.out; omega
        have HE1 : Hid (∀ W, Below G w W → W.cell? ⟨bg, og + v, none⟩ = some (.slice A2 g[v].length c2)) := Lib.hid (fun W hW => (hW.cell (p := ⟨bg, og + v, none⟩) hbg).trans e1)
        have hr24 := HR24.out _ (List.getElem_mem hvt)
        have hrow := rowG_at hvt
        have HX := Lib.hid (rowOk_row HG.out hvt)
        rw [hrow] at HX
        have HRow := Lib.hid hrow
        have H1 := Lib.hid h1
        clear e1 h1 hrow
        have e1r := HE1.out wr hb
        generalize g[v] = r at *
        go_wp2
        go_loopw [24] (fun i wr => ∃ (m : Nat), i = .int .i64 m ∧ m ≤ r.length ∧ Hid (RowsD wr G (.slice (some ⟨G, 0, none⟩) g.length g.length) (rowsF g.length (revF g v m))) ∧ Below G w wr) (fun i _ => r.length - (intOf i).toNat)
        case atStart => exact ⟨0, rfl, Nat.zero_le _, HO, hb⟩
        case round =>
          clear HO hb
          obtain ⟨m, rfl, hm, HO, hb⟩ := hrel
          by_cases hmt : m < r.length
          · obtain ⟨br, or_, rfl, e2⟩ := H1.out.iv hmt
            have hbr : br < G := by have h : br < w.heap.size := World.block_lt_of_cell? _ _ e2; have := HGG.out; omega
            have HE2 : Hid (∀ W, Below G w W → W.cell? ⟨br, or_ + m, none⟩ = some (.int .i64 r[m])) := Lib.hid (fun W hW => (hW.cell (p := ⟨br, or_ + m, none⟩) hbr).trans e2)
            obtain ⟨y0, y1, y2⟩ := HX.out r[m] (List.getElem_mem hmt)
            obtain ⟨y, hy⟩ := Int.eq_ofNat_of_zero_le y0
            have hmr : m < (rowG g v).length := by rw [HRow.out]; exact hmt
            have hyr : (rowG g v)[m] = (y : Int) := by
              have h : (rowG g v)[m]? = some r[m] := by rw [HRow.out]; exact List.getElem?_eq_getElem hmt
              rw [List.getElem?_eq_getElem hmr] at h
              injection h with h
              rw [h]; exact hy
            rw [hy] at HE2 y1
            have hyn : y < g.length := by omega
            have HYr := Lib.hid hyr
            have e2r := HE2.out wr hb
            clear e2 y0 y1 y2 hy hyr
            have hvL : y < (rowsF g.length (revF g v m)).length := by rw [rowsF_length]; exact hyn
            have HPut := Lib.hid (revF_put HG.out hvt hmr HYr.out hvL)
            have hrl : (rowsF g.length (revF g v m))[y].length ≤ 24 := by rw [rowsF_at]; have := revF_short g v m y; omega
            obtain ⟨A5, c5, e5, f5, o5⟩ := HO.out.elem hvL
            have HFar := Lib.hid (fun (wn : World) (o : Obj) hg => HO.out.far (wn := wn) (o := o) hvL e5 hg)
            have HApp := Lib.hid (fun (wn : World) (gg c2 : Nat) (o : Obj) hg hat hown => HO.out.app (wn := wn) (gg := gg) (c2 := c2) (z := (v : Int)) (o := o) hvL e5 hg hat hown)
            rw [HPut.out] at HApp
            have HEl := Lib.hid (fun ob => (o5.alloc ob))
            clear HYr HPut o5 HO
            generalize (rowsF g.length (revF g v m))[y] = rv at *
            have hsz : G ≤ wr.heap.size := by have := hb.size; have := HGG.out; omega
            have HBase := Lib.hid (own_base (HEl.out (.cells #[] 0)))
            go_wp2_with (at_builtin; refine wpList_append_lies _ rfl _ _ 25 rfl G 3 i0 (.int .i64 0) 1 8 Try.underlying25 hi hz0 hz1 hz2 rfl (by omega) (.slice A5 rv.length c5) rv.length (rv.map Iv) (by rfl) (HEl.out _) ⟨_, 0, none⟩ 1 1 [Iv v] (by rfl) (by rfl) (World.news_of_block (cs := #[Iv v]) (t := 3) (fr := (0, 0)) (heap_alloc_new _ _)) (by simp [Value.oneCell']) (by omega) (by unfold maxLen; omega) (by omega) (by simp; omega) _ rfl ?_)
            intro gg cap wn1 hown1 hgrow hat hlt
            have HOW := Lib.hid (HApp.out _ _ _ _ hgrow (hat.imp id (fun h => by simpa using h)) hown1)
            have y1 := (HFar.out _ _ hgrow y).1
            have y2 := (HFar.out _ _ hgrow y).2
            have hbn : Below G w wn1 := ((hb.alloc hsz _).grown hgrow (by simp; omega) (fun k hk => HBase.out k hk))
            clear hown1 hgrow hat hlt
            go_wp2
            go_roundw
            case rel => exact ⟨m + 1, by go_num, by omega, HOW, below_put hbn (Nat.le_refl _)⟩
            case measure => simp [intOf]; omega
          · have HO2 : Hid (RowsD wr G (.slice (some ⟨G, 0, none⟩) g.length g.length) (rowsF g.length (revF g (v + 1) 0))) := Lib.hid (by rw [← revF_next (m := m) (by rw [HRow.out]; omega)]; exact HO.out)
            go_wp2
            go_roundw
            case rel => exact ⟨v + 1, by go_num, by omega, HO2, hb⟩
            case measure => simp [intOf]; omega
      · obtain rfl : v = g.length := by omega
        have HO2 : Hid (RowsD wr G (.slice (some ⟨G, 0, none⟩) g.length g.length) (revG g)) := Lib.hid (by rw [← revF_end]; exact HO.out)
        go_wp2
        go_ret2
        exact ⟨_, by rw [HE.out.2]; rfl, by rw [HE.out.1, ← HGG.out]; exact HO2.out.rows, by rw [← HGG.out]; exact hb⟩
end Go.Proofs.Ytcfnilemikenhaa
