/- Contract of the reference's Without of layer 4, for all graphs and marks. -/
import Derived.Test.YtadcapeedjgeoaaRcRows
import Derived.Test.YtadcapeedjgeoaaRcFrom
import Derived.Deep.RegionLaw
namespace Go.Proofs.Ytadcapeedjgeoaa
open Go Go.RowKit Fl

/-- Row i, when vertices before v are through, and m elements of v's row. -/
def woF (g : GraphD) (s : List Bool) (v m i : Nat) : List Int := if i < v then (if atB s i then [] else woRow s (rowG g i)) else if i = v then (if atB s v then [] else woRow s ((rowG g v).take m)) else []
theorem woF_start (g : GraphD) (s : List Bool) : rowsF g.length (woF g s 0 0) = List.replicate g.length [] := by
  rw [← rowsF_nil]
  refine rowsF_congr fun i _ => ?_
  unfold woF
  rw [if_neg (show ¬ i < 0 by omega)]
  split
  · split
    · rfl
    · simp [woRow]
  · rfl
theorem woF_next {g : GraphD} {s : List Bool} {v m : Nat} (hm : (rowG g v).length ≤ m) : rowsF g.length (woF g s v m) = rowsF g.length (woF g s (v + 1) 0) := by
  refine rowsF_congr fun i _ => ?_
  unfold woF
  by_cases h1 : i < v
  · rw [if_pos h1, if_pos (show i < v + 1 by omega)]
  · by_cases h2 : i = v
    · subst h2
      rw [if_neg h1, if_pos rfl, if_pos (show i < i + 1 by omega), List.take_of_length_le hm]
    · rw [if_neg h1, if_neg h2, if_neg (show ¬ i < v + 1 by omega)]
      split
      · split
        · rfl
        · simp [woRow]
      · rfl
theorem woF_end (g : GraphD) (s : List Bool) : rowsF g.length (woF g s g.length 0) = woG g s := by
  unfold woG rowsF
  refine List.map_congr_left fun i hi => ?_
  unfold woF
  rw [if_pos (List.mem_range.1 hi)]
theorem woF_skip {g : GraphD} {s : List Bool} {v m : Nat} (h : atB s v = true ∨ ∀ (hm : m < (rowG g v).length), atB s (rowG g v)[m].toNat = true) : rowsF g.length (woF g s v (m + 1)) = rowsF g.length (woF g s v m) := by
  refine rowsF_congr fun i _ => ?_
  unfold woF
  by_cases h1 : i < v
  · rw [if_pos h1, if_pos h1]
  · by_cases h2 : i = v
    · rw [if_neg h1, if_pos h2, if_neg h1, if_pos h2]
      rcases h with h | h
      · rw [if_pos h, if_pos h]
      · congr 1
        by_cases hm : m < (rowG g v).length
        · unfold woRow
          rw [List.take_succ_eq_append_getElem hm, List.filter_append]
          simp [h hm]
        · rw [List.take_of_length_le (by omega), List.take_of_length_le (by omega)]
    · rw [if_neg h1, if_neg h2, if_neg h1, if_neg h2]
theorem woF_put {g : GraphD} {s : List Bool} {v m : Nat} {x : Int} (hv : atB s v = false) (hm : m < (rowG g v).length) (hx : (rowG g v)[m] = x) (hs : atB s x.toNat = false) (hvg : v < (rowsF g.length (woF g s v m)).length) : (rowsF g.length (woF g s v m)).set v ((rowsF g.length (woF g s v m))[v] ++ [x]) = rowsF g.length (woF g s v (m + 1)) := by
  rw [rowsF_at]
  refine rowsF_set ?_ fun i hi => ?_
  · unfold woF
    rw [if_neg (show ¬ v < v by omega), if_pos rfl, if_neg (show ¬ v < v by omega), if_pos rfl, hv]
    unfold woRow
    rw [List.take_succ_eq_append_getElem hm, List.filter_append, hx]
    simp [hs]
  · unfold woF
    by_cases h1 : i < v
    · rw [if_pos h1, if_pos h1]
    · rw [if_neg h1, if_neg hi, if_neg h1, if_neg hi]
/-- What Without returns. -/
def WoPost (w : World) (l : GraphD) (k : Int) (e : Ending) (w' : World) : Prop := ∃ u, e = .returned (.tuple #[u, .int .i64 k]) ∧ RowsOwn w' w.heap.size u l ∧ Below w.heap.size w w'
def woL (g : GraphD) (s : List Bool) : GraphD := if chkG g s.length = 0 then woG g s else []
theorem rowsOwn_nil (w : World) (base : Nat) : RowsOwn w base (.slice none 0 0) [] := ⟨[], rfl, World.ownsRow_nil _ _ _ _, fun k u r h => by simp at h⟩
theorem woF_short {g : GraphD} {s : List Bool} (hg : validG g = true) (v m i : Nat) : (woF g s v m i).length ≤ 24 := by
  have key : ∀ j, (rowG g j).length ≤ 24 := fun j => by
    rcases Nat.lt_or_ge j g.length with h | h
    · rw [rowG_at h]; exact validG_short hg _ (List.getElem_mem h)
    · rw [rowG_out h]; simp
  unfold woF
  split
  · split
    · simp
    · exact Nat.le_trans (List.length_filter_le _ _) (key i)
  · split
    · split
      · simp
      · exact Nat.le_trans (List.length_filter_le _ _) (Nat.le_trans (List.length_take_le' _ _) (key v))
    · simp
theorem size_alloc_drew {w : World} {B : Nat} (h : B ≤ w.heap.size) (o : Obj) : B ≤ ((w.alloc o).drew).heap.size := by
  have e : (w.alloc o).heap.size = w.heap.size + 1 := by simp
  show B ≤ (w.alloc o).heap.size
  omega
set_option maxRecDepth 100000 in
set_option maxHeartbeats 8000000 in
theorem refWithout_c (A B : Option Addr) (c d : Nat) (g : GraphD) (s : List Bool) (w : World) (hh : RowsAt w A g) (hs : Holds w B (s.map Bo)) (hl : g.length ≤ 1000000000000000000) (hr : ∀ r ∈ g, r.length ≤ 1000000000000000000) :
    Calls Try.prog 23 #[.slice A g.length c, .slice B s.length d] w (WoPost w (woL g s) (chkG g s.length)) := by
  have CC := Lib.hid (refCheck_c A B c d s.length g w hh hl hr)
  by_cases h0 : chkG g s.length = 0
  · have hv : validG g = true ∧ s.length = g.length := by
      rcases chkG_cases g s.length with h | h | h
      · exact h.2
      · omega
      · omega
    have HE : Hid (woL g s = woG g s) := Lib.hid (by unfold woL; rw [if_pos h0])
    rw [h0] at CC ⊢
    have hl24 := validG_len hv.1
    have HSL := Lib.hid hv.2
    have HG := Lib.hid hv.1
    have HS := Lib.hid hs
    have HH := Lib.hid hh
    have HR24 := Lib.hid (validG_short hv.1)
    have HW24 := Lib.hid (woF_short (s := s) hv.1)
    obtain ⟨i0, hi, hz0, hz1, hz2⟩ := info_parts Try.infoIntG
    clear hh hs hr h0 hv
    go_enter Try.func23, Try.ntmps23
    go_wp2_with fail
    refine CC.out.mono ?_
    rintro e w1 ⟨rfl, rfl⟩
    go_wp2_with (refine make_any _ rfl _ _ 22 24 (.slice none 0 0) 24 Try.underlying22 Try.infoRowG rfl (by decide) rfl .i64 .i64 _ _ g.length rfl rfl rfl rfl (by omega) ?_)
    intro w2 own2 hb2
    have HO2 : Hid (RowsD w2 w.heap.size (.slice (some ⟨w.heap.size, 0, none⟩) g.length g.length) (rowsF g.length (woF g s 0 0))) := Lib.hid (by rw [woF_start]; exact rowsD_new own2)
    obtain ⟨G, hG⟩ : ∃ G, G = w.heap.size := ⟨_, rfl⟩
    rw [← hG] at HO2 hb2 ⊢
    have HGG := Lib.hid hG
    clear own2 hG
    go_wp2
    go_loopw [8] (fun i wr => ∃ (v : Nat), i = .int .i64 v ∧ v ≤ g.length ∧ Hid (RowsD wr G (.slice (some ⟨G, 0, none⟩) g.length g.length) (rowsF g.length (woF g s v 0))) ∧ Below G w wr) (fun i _ => g.length - (intOf i).toNat)
    case atStart => exact ⟨0, rfl, Nat.zero_le _, HO2, hb2⟩
    case round =>
      clear HO2 hb2
      obtain ⟨v, rfl, hvl, HO, hb⟩ := hrel
      by_cases hvt : v < g.length
      · obtain ⟨bg, og, A2, c2, rfl, e1, h1⟩ := HH.out.one hvt
        have hbg : bg < G := by have h : bg < w.heap.size := World.block_lt_of_cell? _ _ e1; have := HGG.out; omega
        have HE1 : Hid (∀ W, Below G w W → W.cell? ⟨bg, og + v, none⟩ = some (.slice A2 g[v].length c2)) := Lib.hid (fun W hW => (hW.cell (p := ⟨bg, og + v, none⟩) hbg).trans e1)
        have hr24 := HR24.out _ (List.getElem_mem hvt)
        have hrow := rowG_at hvt
        have HX := Lib.hid (rowOk_row HG.out hvt)
        rw [hrow] at HX
        have HRow := Lib.hid hrow
        have H1 := Lib.hid h1
        have hvs : v < s.length := by have := HSL.out; omega
        obtain ⟨bs, os, rfl, hsc⟩ := HS.out.bo hvs
        have hbs : bs < G := by have h : bs < w.heap.size := World.block_lt_of_cell? _ _ hsc; have := HGG.out; omega
        have HSv : Hid (∀ W, Below G w W → W.cell? ⟨bs, os + v, none⟩ = some (.bool s[v])) := Lib.hid (fun W hW => (hW.cell (p := ⟨bs, os + v, none⟩) hbs).trans hsc)
        have HAv := Lib.hid (atB_at hvs)
        clear e1 h1 hrow hsc
        generalize g[v] = r at *
        generalize s[v] = sv at *
        go_wp2
        go_loopw [9] (fun i wr => ∃ (m : Nat), i = .int .i64 m ∧ m ≤ r.length ∧ Hid (RowsD wr G (.slice (some ⟨G, 0, none⟩) g.length g.length) (rowsF g.length (woF g s v m))) ∧ Below G w wr) (fun i _ => r.length - (intOf i).toNat)
        case atStart => exact ⟨0, rfl, Nat.zero_le _, HO, hb⟩
        case round =>
          clear HO hb
          obtain ⟨m, rfl, hm, HO, hb⟩ := hrel
          have e1 := HE1.out wr hb
          by_cases hmt : m < r.length
          · have ev := HSv.out wr hb
            obtain ⟨br, or_, rfl, e2⟩ := H1.out.iv hmt
            have hbr : br < G := by have h : br < w.heap.size := World.block_lt_of_cell? _ _ e2; have := HGG.out; omega
            have HE2 : Hid (∀ W, Below G w W → W.cell? ⟨br, or_ + m, none⟩ = some (.int .i64 r[m])) := Lib.hid (fun W hW => (hW.cell (p := ⟨br, or_ + m, none⟩) hbr).trans e2)
            obtain ⟨y0, y1, y2⟩ := HX.out r[m] (List.getElem_mem hmt)
            obtain ⟨y, hy⟩ := Int.eq_ofNat_of_zero_le y0
            have hmr : m < (rowG g v).length := by rw [HRow.out]; exact hmt
            have hyr : (rowG g v)[m] = (y : Int) := by
              have h : (rowG g v)[m]? = some r[m] := by rw [HRow.out]; exact List.getElem?_eq_getElem hmt
              rw [List.getElem?_eq_getElem hmr] at h
              injection h with h
              rw [h]; exact hy
            rw [hy] at HE2 y1
            have hyn : y < g.length := by omega
            have hys : y < s.length := by have := HSL.out; omega
            obtain ⟨bs2, os2, hBeq, es⟩ := HS.out.bo hys
            injection hBeq with hBeq
            injection hBeq with hB1 hB2
            subst hB1 hB2
            have esr : wr.cell? ⟨bs, os + y, none⟩ = some (.bool s[y]) := (hb.cell (p := ⟨bs, os + y, none⟩) hbs).trans es
            have HAy := Lib.hid (atB_at hys)
            have HYr := Lib.hid hyr
            have e2r := HE2.out wr hb
            clear e2 es y0 y1 y2 hy hyr
            generalize s[y] = sy at *
            have hcase : sv = true ∨ sv = false ∧ sy = true ∨ sv = false ∧ sy = false := by rcases sv with _ | _ <;> rcases sy with _ | _ <;> simp
            rcases hcase with rfl | ⟨rfl, rfl⟩ | ⟨rfl, rfl⟩
            · have HO2 : Hid (RowsD wr G (.slice (some ⟨G, 0, none⟩) g.length g.length) (rowsF g.length (woF g s v (m + 1)))) := Lib.hid (by rw [woF_skip (.inl HAv.out)]; exact HO.out)
              clear HYr HAy
              go_wp2
              go_roundw
              case rel => exact ⟨m + 1, by go_num, by omega, HO2, hb⟩
              case measure => simp [intOf]; omega
            · have HO2 : Hid (RowsD wr G (.slice (some ⟨G, 0, none⟩) g.length g.length) (rowsF g.length (woF g s v (m + 1)))) := Lib.hid (by rw [woF_skip (.inr fun _ => by rw [HYr.out, Int.toNat_natCast]; exact HAy.out)]; exact HO.out)
              clear HYr HAy
              go_wp2
              go_roundw
              case rel => exact ⟨m + 1, by go_num, by omega, HO2, hb⟩
              case measure => simp [intOf]; omega
            · have hvL : v < (rowsF g.length (woF g s v m)).length := by rw [rowsF_length]; exact hvt
              have HPut := Lib.hid (woF_put HAv.out hmr HYr.out (by rw [Int.toNat_natCast]; exact HAy.out) hvL)
              have hrl : (rowsF g.length (woF g s v m))[v].length ≤ 24 := by rw [rowsF_at]; exact HW24.out v m v
              obtain ⟨A5, c5, e5, f5, o5⟩ := HO.out.elem hvL
              have HFar := Lib.hid (fun (wn : World) (o : Obj) hg => HO.out.far (wn := wn) (o := o) hvL e5 hg)
              have HApp := Lib.hid (fun (wn : World) (gg c2 : Nat) (o : Obj) hg hat hown => HO.out.app (wn := wn) (gg := gg) (c2 := c2) (z := (y : Int)) (o := o) hvL e5 hg hat hown)
              rw [HPut.out] at HApp
              have HEl := Lib.hid (fun ob => (o5.alloc ob))
              clear HYr HAy HPut o5 HO
              generalize (rowsF g.length (woF g s v m))[v] = rv at *
              have hsz : G ≤ wr.heap.size := by have := hb.size; have := HGG.out; omega
              have e1a : ∀ ob, (wr.alloc ob).cell? ⟨bg, og + v, none⟩ = some (.slice (some ⟨br, or_, none⟩) r.length c2) := fun ob => HE1.out _ (hb.alloc hsz ob)
              have e2a : ∀ ob, (wr.alloc ob).cell? ⟨br, or_ + m, none⟩ = some (.int .i64 y) := fun ob => HE2.out _ (hb.alloc hsz ob)
              have hGw : G < wr.heap.size := World.block_lt_of_cell? _ _ e5
              have e5a : ∀ ob, (wr.alloc ob).cell? ⟨G, v, none⟩ = some (.slice A5 rv.length c5) := fun ob => (((Below.refl wr.heap.size wr).alloc (Nat.le_refl _) ob).cell (p := ⟨G, v, none⟩) hGw).trans e5
              have HEd : Hid (∀ ob, ((wr.alloc ob).drew).ownsRow G 3 1 (.slice A5 rv.length c5) rv.length (rv.map Iv)) := Lib.hid (fun ob => HEl.out ob)
              have HNew : Hid (∀ ob, ((wr.alloc ob).drew).heap[wr.heap.size]? = some ob) := Lib.hid (fun ob => heap_alloc_new wr ob)
              have HSA : Hid (∀ ob, G ≤ ((wr.alloc ob).drew).heap.size) := Lib.hid (fun ob => size_alloc_drew hsz ob)
              have HAp2 := Lib.hid (fun (wn : World) (gg c2 : Nat) (o : Obj) (hg : ((wr.alloc o).drew).grownBy wn (Value.slice A5 rv.length c5).ownBlock) (hat : (Value.slice A5 rv.length c5).ownBlock = some gg ∨ gg = ((wr.alloc o).drew).heap.size) hown => HApp.out wn gg c2 o (grownBy_drew hg) hat hown)
              have HFr2 := Lib.hid (fun (wn : World) (o : Obj) (hg : ((wr.alloc o).drew).grownBy wn (Value.slice A5 rv.length c5).ownBlock) (i : Nat) => (show wn.cell? ⟨G, i, none⟩ = wr.cell? ⟨G, i, none⟩ ∧ wn.frozen? ⟨G, i, none⟩ = wr.frozen? ⟨G, i, none⟩ from HFar.out wn o (grownBy_drew hg) i))
              have HBase := Lib.hid (own_base (HEl.out (.cells #[] 0)))
              go_wp2_with fail
              go_region_law (first | (refine step_append_lies _ (by rfl) _ _ _ (by rfl) G 3 i0 (.int .i64 0) 1 8 Try.underlying24 hi hz0 hz1 hz2 rfl (by omega) (.slice A5 rv.length c5) rv.length (rv.map Iv) (by rfl) (HEd.out _) ⟨_, 0, none⟩ 1 1 [Iv y] (by rfl) (by rfl) (World.news_of_block (cs := #[Iv y]) (t := 3) (fr := (0, 0)) (HNew.out _)) (by simp [Value.oneCell']) (by omega) (by unfold maxLen; omega) (by omega) (HSA.out _) _ rfl ?_; intro gg cap wn1 hown1 hgrow hat hlt; have HOW := Lib.hid (HAp2.out _ _ _ _ hgrow hat hown1); have HGR := Lib.hid hgrow; have y1 := (HFr2.out _ _ hgrow v).1; have y2 := (HFr2.out _ _ hgrow v).2; clear hown1 hgrow hat hlt))
              all_goals
                have hbn : Below G w wn1 := ((hb.alloc hsz _).grown (grownBy_drew HGR.out) (by simp; omega) (fun k hk => HBase.out k hk))
                go_wp2
                go_roundw
                case rel => exact ⟨m + 1, by go_num, by omega, HOW, below_put hbn (Nat.le_refl _)⟩
                case measure => simp [intOf]; omega
          · have HO2 : Hid (RowsD wr G (.slice (some ⟨G, 0, none⟩) g.length g.length) (rowsF g.length (woF g s (v + 1) 0))) := Lib.hid (by rw [← woF_next (m := m) (by rw [HRow.out]; omega)]; exact HO.out)
            go_wp2
            go_roundw
            case rel => exact ⟨v + 1, by go_num, by omega, HO2, hb⟩
            case measure => simp [intOf]; omega
      · obtain rfl : v = g.length := by omega
        have HO2 : Hid (RowsD wr G (.slice (some ⟨G, 0, none⟩) g.length g.length) (woG g s)) := Lib.hid (by rw [← woF_end]; exact HO.out)
        go_wp2
        go_ret2
        exact ⟨_, rfl, by rw [HE.out, ← HGG.out]; exact HO2.out.rows, by rw [← HGG.out]; exact hb⟩
  · have hcase : chkG g s.length = 19 ∨ chkG g s.length = 20 := by
      rcases chkG_cases g s.length with h | h | h
      · exact absurd h.1 h0
      · exact .inl h
      · exact .inr h
    have HE : Hid (woL g s = []) := Lib.hid (by unfold woL; rw [if_neg h0])
    clear hh hs hr h0
    rcases hcase with h | h
    all_goals
      rw [h] at CC ⊢
      clear h
      go_enter Try.func23, Try.ntmps23
      go_wp2_with fail
      refine CC.out.mono ?_
      rintro e w1 ⟨rfl, rfl⟩
      go_wp2
      go_ret2
      exact ⟨_, rfl, by rw [HE.out]; exact rowsOwn_nil _ _, Below.refl _ _⟩
end Go.Proofs.Ytadcapeedjgeoaa
