/- Contract of components' quotientOf. -/
import Derived.Test.YtcljmgchghjncaaCdQuotM
import Derived.Deep.RegionLaw
namespace Go.Proofs.Ytcljmgchghjncaa
open Go Go.RowKit Fl

theorem names_cell {g : GraphD} {s : List Bool} {W : World} {B : Option Addr} (h : Holds W B ((namesL g s).map Iv)) {x : Nat} (hx : x < g.length) : ∃ b o, B = some ⟨b, o, none⟩ ∧ W.cell? ⟨b, o + x, none⟩ = some (.int .i64 (nameOf g s x)) := by
  have hl : x < (namesL g s).length := by rw [namesL_length]; exact hx
  obtain ⟨b, o, hB, hc⟩ := h.iv hl
  exact ⟨b, o, hB, by rw [hc, namesL_at]⟩
/-- The rows, when the first a are sorted and shortened. -/
noncomputable def sortF (g : GraphD) (s : List Bool) (Q : GraphD) (a : Nat) : GraphD := mapR g.length fun i => if i < a then quotRow g s i else rowG Q i
theorem sortF_length (g : GraphD) (s : List Bool) (Q : GraphD) (a : Nat) : (sortF g s Q a).length = g.length := mapR_length _ _
theorem sortF_get (g : GraphD) (s : List Bool) (Q : GraphD) (a : Nat) {i : Nat} (h : i < g.length) : (sortF g s Q a)[i]? = some (if i < a then quotRow g s i else rowG Q i) := by simp [sortF, mapR, h]
theorem sortF_at {g : GraphD} {s : List Bool} {Q : GraphD} {a : Nat} (h : a < (sortF g s Q a).length) : (sortF g s Q a)[a] = rowG Q a := by
  have e := sortF_get g s Q a (i := a) (by rw [sortF_length] at h; exact h)
  rw [List.getElem?_eq_getElem h, if_neg (Nat.lt_irrefl a)] at e
  injection e
theorem sortF_start {g : GraphD} {s : List Bool} {Q : GraphD} (h : Q.length = g.length) : sortF g s Q 0 = Q := by
  refine List.ext_getElem? fun i => ?_
  rcases Nat.lt_or_ge i g.length with hi | hi
  · rw [sortF_get g s Q 0 hi, if_neg (Nat.not_lt_zero i), List.getElem?_eq_getElem (by omega), rowG_get (by omega)]
  · rw [List.getElem?_eq_none (by rw [sortF_length]; exact hi), List.getElem?_eq_none (by omega)]
theorem sortF_set (g : GraphD) (s : List Bool) (Q : GraphD) {a : Nat} (_ha : a < g.length) : (sortF g s Q a).set a (quotRow g s a) = sortF g s Q (a + 1) := by
  unfold sortF
  refine mapR_set (by rw [if_pos (Nat.lt_succ_self a)]) fun i hi => ?_
  by_cases h : i < a
  · rw [if_pos h, if_pos (by omega)]
  · rw [if_neg h, if_neg (by omega)]
theorem sortF_end (g : GraphD) (s : List Bool) (Q : GraphD) : sortF g s Q g.length = quotL g s := by
  unfold sortF quotL mapR
  exact List.map_congr_left fun i hi => by rw [if_pos (List.mem_range.1 hi)]
set_option maxRecDepth 100000 in
set_option maxHeartbeats 8000000 in
theorem quotOf_c (A B : Option Addr) (c d : Nat) (g : GraphD) (s : List Bool) (w : World) (hh : RowsAt w A (woG g s)) (hs : Holds w B ((namesL g s).map Iv)) (hg : validG g = true) :
    Calls Try.prog 27 #[.slice A g.length c, .slice B g.length d] w fun e w' => ∃ u, e = .returned u ∧ RowsOwn w' w.heap.size u (quotL g s) ∧ Below w.heap.size w w' := by
  have hl24 := validG_len hg
  have HG := Lib.hid hg
  have HH := Lib.hid hh
  have HS := Lib.hid hs
  have hwv := woG_valid (s := s) hg
  have HWV := Lib.hid hwv
  have HWL := Lib.hid (woG_length g s)
  have HR24 := Lib.hid (validG_short hwv)
  obtain ⟨i0, hi, hz0, hz1, hz2⟩ := info_parts Try.infoIntG
  clear hh hs hg hwv
  go_enter Try.func27, Try.ntmps27
  go_wp2_with (refine make_any _ rfl _ _ 22 24 (.slice none 0 0) 24 Try.underlying22 Try.infoRowG rfl (by decide) rfl .i64 .i64 _ _ g.length rfl rfl rfl rfl (by omega) ?_)
  intro w2 own2 hb2
  obtain ⟨G, hG⟩ : ∃ G, G = w.heap.size := ⟨_, rfl⟩
  rw [← hG] at own2 hb2 ⊢
  have HO2 := Lib.hid (rowsD_new own2)
  have HGG := Lib.hid hG
  have HP2 := Lib.hid (PQ.start g s)
  have HB2 := Lib.hid hb2
  clear own2 hb2 hG
  go_wp2
  go_loopw [18] (fun iv wr => ∃ (v : Nat) (Q : GraphD), iv = .int .i64 v ∧ v ≤ g.length ∧ Q.length = g.length ∧ Hid (RowsD wr G (.slice (some ⟨G, 0, none⟩) g.length g.length) Q) ∧ Hid (PQ g s v 0 Q) ∧ Hid (Below G w wr)) (fun iv _ => g.length - (intOf iv).toNat)
  case atStart => exact ⟨0, _, rfl, Nat.zero_le _, by simp, HO2, HP2, HB2⟩
  case round =>
    clear HO2 HP2 HB2
    obtain ⟨v, Q, rfl, hv, hQl, HO, HP, HB⟩ := hrel
    by_cases hvt : v < g.length
    · have hvt' : v < (woG g s).length := by rw [woG_length]; exact hvt
      obtain ⟨bg, og, A2, c2, rfl, e1, h1⟩ := HH.out.one hvt'
      have hbg : bg < G := by have h : bg < w.heap.size := World.block_lt_of_cell? _ _ e1; have := HGG.out; omega
      have hr24 := HR24.out _ (List.getElem_mem hvt')
      have HX := Lib.hid (rowOk_row HWV.out hvt')
      rw [← rowG_get hvt'] at e1 h1 hr24
      have e1r : wr.cell? ⟨bg, og + v, none⟩ = some (.slice A2 (rowG (woG g s) v).length c2) := (HB.out.cell (p := ⟨bg, og + v, none⟩) hbg).trans e1
      have H1 := Lib.hid h1
      clear e1 h1 hvt'
      go_wp2
      clear e1r
      go_loopw [25] (fun iv wr => ∃ (k : Nat) (Q : GraphD), iv = .int .i64 k ∧ k ≤ (rowG (woG g s) v).length ∧ Q.length = g.length ∧ Hid (RowsD wr G (.slice (some ⟨G, 0, none⟩) g.length g.length) Q) ∧ Hid (PQ g s v k Q) ∧ Hid (Below G w wr)) (fun iv _ => (rowG (woG g s) v).length - (intOf iv).toNat)
      case atStart => exact ⟨0, Q, rfl, Nat.zero_le _, hQl, HO, HP, HB⟩
      case round =>
        clear HO HP HB hQl Q
        obtain ⟨k, Q, rfl, hk, hQl, HO, HP, HB⟩ := hrel
        by_cases hkt : k < (rowG (woG g s) v).length
        · obtain ⟨br, or_, rfl, e2⟩ := H1.out.iv hkt
          have hbr : br < G := by have h : br < w.heap.size := World.block_lt_of_cell? _ _ e2; have := HGG.out; omega
          obtain ⟨y0, y1, _⟩ := HX.out _ (List.getElem_mem hkt)
          obtain ⟨x, hx⟩ := Int.eq_ofNat_of_zero_le y0
          have hxr : (rowG (woG g s) v)[k]? = some (x : Int) := by rw [List.getElem?_eq_getElem hkt, hx]
          rw [hx] at e2 y1
          rw [woG_length] at y1
          have hxg : x < g.length := by omega
          have hedge := (woG_edge hvt).1 (List.mem_of_getElem? hxr)
          obtain ⟨a0, ha0, hav, _⟩ := name_open hvt hedge.2.1
          have e2r : wr.cell? ⟨br, or_ + k, none⟩ = some (.int .i64 x) := (HB.out.cell (p := ⟨br, or_ + k, none⟩) hbr).trans e2
          obtain ⟨bn, on, rfl, en1⟩ := names_cell HS.out hvt
          obtain ⟨bn', on', hBe, en2⟩ := names_cell HS.out hxg
          injection hBe with hBe
          injection hBe with hB1 hB2
          subst hB1 hB2
          have hbn : bn < G := by have h : bn < w.heap.size := World.block_lt_of_cell? _ _ en1; have := HGG.out; omega
          have en1r := (HB.out.cell (p := ⟨bn, on + v, none⟩) hbn).trans en1
          have en2r := (HB.out.cell (p := ⟨bn, on + x, none⟩) hbn).trans en2
          rw [ha0] at en1r
          obtain ⟨zx, hzx⟩ : ∃ zx, nameOf g s x = zx := ⟨_, rfl⟩
          rw [hzx] at en2r
          have haQ : a0 < Q.length := by omega
          have HSk := Lib.hid (fun hne : zx = (a0 : Int) => HP.out.skip hxr (by rw [hzx, ha0, hne]))
          have HPu := Lib.hid (fun hne : zx ≠ (a0 : Int) => HP.out.put hxr ha0 hzx hne haQ)
          have hQs : Q[a0].length ≤ 24 * v + k := by have := HP.out.short a0; rwa [rowG_get haQ] at this
          clear e2 y0 y1 hx hxr hedge en1 en2 hzx ha0 HP
          by_cases hne : zx = (a0 : Int)
          · have HP2 := Lib.hid (HSk.out hne)
            clear HSk HPu
            go_wp2
            go_roundw
            case rel => exact ⟨k + 1, Q, by go_num, by omega, hQl, HO, HP2, HB⟩
            case measure => simp [intOf]; omega
          · have HP2 := Lib.hid (HPu.out hne)
            obtain ⟨A5, c5, e5, f5, o5⟩ := HO.out.elem haQ
            have HFar := Lib.hid (fun (wn : World) (o : Obj) hg => HO.out.far (wn := wn) (o := o) haQ e5 hg)
            have HApp := Lib.hid (fun (wn : World) (gg c2 : Nat) (o : Obj) hg hat hown => HO.out.app (wn := wn) (gg := gg) (c2 := c2) (z := zx) (o := o) haQ e5 hg hat hown)
            have HEl := Lib.hid (fun ob => (o5.alloc ob))
            have hQl2 : (Q.set a0 (Q[a0] ++ [zx])).length = g.length := by rw [List.length_set]; exact hQl
            clear HSk HPu o5 HO
            generalize hQ2 : Q.set a0 (Q[a0] ++ [zx]) = Q2 at *
            clear hQ2
            generalize Q[a0] = rv at *
            have hsz : G ≤ wr.heap.size := by have := HB.out.size; have := HGG.out; omega
            have hGw : G < wr.heap.size := World.block_lt_of_cell? _ _ e5
            have e5a : ∀ ob, (wr.alloc ob).cell? ⟨G, a0, none⟩ = some (.slice A5 rv.length c5) := fun ob => (((Below.refl wr.heap.size wr).alloc (Nat.le_refl _) ob).cell (p := ⟨G, a0, none⟩) hGw).trans e5
            have HEd : Hid (∀ ob, ((wr.alloc ob).drew).ownsRow G 3 1 (.slice A5 rv.length c5) rv.length (rv.map Iv)) := Lib.hid (fun ob => HEl.out ob)
            have HNew : Hid (∀ ob, ((wr.alloc ob).drew).heap[wr.heap.size]? = some ob) := Lib.hid (fun ob => heap_alloc_new wr ob)
            have HSA : Hid (∀ ob, G ≤ ((wr.alloc ob).drew).heap.size) := Lib.hid (fun ob => size_alloc_drew hsz ob)
            have HAp2 := Lib.hid (fun (wn : World) (gg c2 : Nat) (o : Obj) (hg : ((wr.alloc o).drew).grownBy wn (Value.slice A5 rv.length c5).ownBlock) (hat : (Value.slice A5 rv.length c5).ownBlock = some gg ∨ gg = ((wr.alloc o).drew).heap.size) hown => HApp.out wn gg c2 o (grownBy_drew hg) hat hown)
            have HFr2 := Lib.hid (fun (wn : World) (o : Obj) (hg : ((wr.alloc o).drew).grownBy wn (Value.slice A5 rv.length c5).ownBlock) (i : Nat) => (show wn.cell? ⟨G, i, none⟩ = wr.cell? ⟨G, i, none⟩ ∧ wn.frozen? ⟨G, i, none⟩ = wr.frozen? ⟨G, i, none⟩ from HFar.out wn o (grownBy_drew hg) i))
            have HBase := Lib.hid (own_base (HEl.out (.cells #[] 0)))
            have hrvl : rv.length ≤ 1000 := by omega
            have ha0g : a0 < g.length := by omega
            go_wp2_with fail
            go_region_law (first | (refine step_append_lies _ (by rfl) _ _ _ (by rfl) G 3 i0 (.int .i64 0) 1 8 Try.underlying24 hi hz0 hz1 hz2 rfl (by omega) (.slice A5 rv.length c5) rv.length (rv.map Iv) (by rfl) (HEd.out _) ⟨_, 0, none⟩ 1 1 [Iv zx] (by rfl) (by rfl) (World.news_of_block (cs := #[Iv zx]) (t := 3) (fr := (0, 0)) (HNew.out _)) (by simp [Value.oneCell']) (by omega) (by unfold maxLen; omega) (by omega) (HSA.out _) _ rfl ?_; intro gg cap wn1 hown1 hgrow hat hlt; have HOW := Lib.hid (HAp2.out _ _ _ _ hgrow hat hown1); have HGR := Lib.hid hgrow; have y1 := (HFr2.out _ _ hgrow a0).1; have y2 := (HFr2.out _ _ hgrow a0).2; clear hown1 hgrow hat hlt))
            all_goals
              have hbn2 : Below G w wn1 := ((HB.out.alloc hsz _).grown (grownBy_drew HGR.out) (by simp; omega) (fun k hk => HBase.out k hk))
              go_wp2
              go_roundw
              case rel => exact ⟨k + 1, Q2, by go_num, by omega, hQl2, HOW, HP2, Lib.hid (below_put hbn2 (Nat.le_refl _))⟩
              case measure => simp [intOf]; omega
        · have HP2 := Lib.hid (HP.out.next (by omega) (by omega))
          clear HP
          go_wp2
          go_roundw
          case rel => exact ⟨v + 1, Q, by go_num, by omega, hQl, HO, HP2, HB⟩
          case measure => simp [intOf]; omega
    · obtain rfl : v = g.length := by omega
      go_wp2
      have HO3 : Hid (RowsD wr G (.slice (some ⟨G, 0, none⟩) g.length g.length) (sortF g s Q 0)) := Lib.hid (by rw [sortF_start hQl]; exact HO.out)
      have HB3 := Lib.hid HB.out
      clear HO HB
      generalize wr = w5 at *
      go_loopw [56] (fun iv wr => ∃ (a : Nat), iv = .int .i64 a ∧ a ≤ g.length ∧ Hid (RowsD wr G (.slice (some ⟨G, 0, none⟩) g.length g.length) (sortF g s Q a)) ∧ Hid (Below G w wr)) (fun iv _ => g.length - (intOf iv).toNat)
      case atStart => exact ⟨0, rfl, Nat.zero_le _, HO3, HB3⟩
      case round =>
        clear HO3 HB3
        obtain ⟨a, rfl, ha, HO, HB⟩ := hrel
        by_cases hat : a < g.length
        · have haL : a < (sortF g s Q a).length := by rw [sortF_length]; exact hat
          obtain ⟨A5, c5, e5, f5, o5⟩ := HO.out.elem haL
          have HOne := Lib.hid (fun (W' : World) (r' : List Int) (u' : Value) h1 h2 h3 => HO.out.one (W' := W') (r' := r') (u' := u') haL e5 h1 h2 h3)
          have hrow := HP.out.row HG.out a
          have hshort := HP.out.short a
          have hRa : (sortF g s Q a)[a] = rowG Q a := sortF_at haL
          have HSet := Lib.hid (sortF_set g s Q hat)
          rw [hRa] at e5 o5 HOne
          rw [← hrow] at HSet
          have hGt : ∃ csq, wr.heap[G]? = some (.cells csq 24 (0, 0)) := by
            obtain ⟨vs, _, h2, _⟩ := HO.out
            rw [sortF_length] at h2
            exact own_row_block h2
          have HGt := Lib.hid hGt
          clear hrow hRa HO haL hGt
          generalize rowG Q a = rv at *
          have hsz : G ≤ wr.heap.size := by have := HB.out.size; have := HGG.out; omega
          rcases rv with _ | ⟨z0, rv0⟩
          · have CS := Lib.hid (Try.slices_Sort_int_none A5 c5 wr)
            have CC := Lib.hid (Try.slices_Compact_int_empty A5 c5 wr)
            have HN := Lib.hid (HOne.out wr [] (.slice A5 0 c5) o5 (fun b hb => hb) (fun _ _ _ => rfl))
            rw [show Lib.compact (([] : List Int).mergeSort fun x y => decide (x ≤ y)) = [] from by rw [List.mergeSort_nil]; rfl] at HSet
            rw [HSet.out] at HN
            have HB2 := Lib.hid (below_put (i := a) (v := .slice A5 0 c5) HB.out (Nat.le_refl G))
            clear HOne HSet HB o5
            go_wp2_with fail
            refine CS.out.mono ?_
            rintro e w6 ⟨rfl, rfl⟩
            go_wp2_with fail
            refine CC.out.mono ?_
            rintro e w7 ⟨rfl, rfl⟩
            clear CS CC
            go_wp2
            go_roundw
            case rel => exact ⟨a + 1, by go_num, by omega, HN, HB2⟩
            case measure => simp [intOf]; omega
          · obtain ⟨b5, cap, hv, hb5, hcap⟩ := own_at o5 (by simp)
            injection hv with hA _ hc
            subst hA hc
            generalize hrv : z0 :: rv0 = rv at *
            have hb5w := own_blk o5
            obtain ⟨sv, hsv⟩ : ∃ sv, (rv.mergeSort fun x y => decide (x ≤ y)) = sv := ⟨_, rfl⟩
            rw [hsv] at HSet
            have hsl : sv.length = rv.length := by rw [← hsv, List.length_mergeSort]
            have HHo : Sort.Holds (Value.int .i64) wr b5 0 rv.toArray := fun j hj => by
              have hj' : j < rv.length := by simpa using hj
              rw [Nat.zero_add, arr_get hj']
              exact own_get o5 (by rw [List.getElem?_map, List.getElem?_eq_getElem hj']; rfl)
            have CS := Try.slices_Sort_int b5 0 c5 rv wr HHo hb5w (by omega)
            rw [hsv] at CS
            have HCS := Lib.hid CS
            have HO5 := Lib.hid o5
            have hGb : G ≠ b5 := fun e => by
              obtain ⟨csq, hq⟩ := HGt.out
              obtain ⟨_, hr⟩ := o5
              rcases hr with ⟨hv, _⟩ | ⟨g', cap', cur, hv, _, hh, _⟩
              · cases hv
              · injection hv with hA
                injection hA with hA
                injection hA with hA
                subst hA
                rw [e, hh] at hq
                injection hq with hq
                injection hq with _ h6
                exact absurd h6 (by decide)
            clear CS HHo hrv o5
            go_wp2_with fail
            refine HCS.out.mono ?_
            rintro e w6 ⟨rfl, nd, os, hw6⟩
            have o6 : w6.ownsRow G 3 1 (.slice (some ⟨b5, 0, none⟩) rv.length c5) rv.length (sv.map Iv) := by
              rw [hw6]
              exact own_grow (own_putRow (W := Sort.ahead wr nd) HO5.out hsl) os
            have hk6 : ∀ b, b < wr.heap.size → b ≠ b5 → w6.heap[b]? = wr.heap[b]? := fun b hb hne => by
              rw [hw6]
              show ((Sort.putRow (Value.int .i64) (Sort.ahead wr nd) b5 0 sv.toArray).heap ++ os)[b]? = _
              rw [Array.getElem?_append_left (by rw [Sort.size_putRow]; exact hb)]
              exact putRow_other _ _ _ _ hne
            have hs6 : wr.heap.size ≤ w6.heap.size := by
              rw [hw6]
              show _ ≤ ((Sort.putRow (Value.int .i64) (Sort.ahead wr nd) b5 0 sv.toArray).heap ++ os).size
              rw [Array.size_append, Sort.size_putRow]
              show _ ≤ wr.heap.size + os.size
              omega
            have h6o : w6.os = wr.os ∧ w6.tape = wr.tape ∧ w6.output = wr.output := by rw [hw6]; exact ⟨rfl, rfl, rfl⟩
            have HHo : Sort.Holds (Value.int .i64) w6 b5 0 sv.toArray := fun j hj => by
              have hj' : j < sv.length := by simpa using hj
              rw [Nat.zero_add, arr_get hj']
              exact own_get o6 (by rw [List.getElem?_map, List.getElem?_eq_getElem hj']; rfl)
            have CC := Try.slices_Compact_int b5 0 c5 sv w6 HHo (by omega) (by omega)
            rw [hsl] at CC
            have HCC := Lib.hid CC
            have HO6 := Lib.hid o6
            have HK6 := Lib.hid hk6
            have H6o := Lib.hid h6o
            clear CC HHo o6 hk6 h6o hw6 HCS HO5
            go_wp2_with fail
            refine HCC.out.mono ?_
            rintro e w7 ⟨rfl, nq, hw7⟩
            have hcl := Lib.compact_length_le sv
            have o7 := own_putRow (W := Sort.ahead w6 nq) (d := Lib.compact sv ++ List.replicate (rv.length - (Lib.compact sv).length) 0) HO6.out (by simp; omega)
            rw [← hw7] at o7
            have o8 := own_cut (n' := (Lib.compact sv).length) o7 (by omega)
            rw [List.take_append_of_le_length (Nat.le_refl _), List.take_length] at o8
            have hk7 : ∀ b, b < wr.heap.size → b ≠ b5 → w7.heap[b]? = wr.heap[b]? := fun b hb hne => by
              rw [hw7, putRow_other _ _ _ _ hne]
              exact HK6.out b hb hne
            have hs7 : w7.heap.size = w6.heap.size := by rw [hw7, Sort.size_putRow]; rfl
            have h7o : w7.os = wr.os ∧ w7.tape = wr.tape ∧ w7.output = wr.output := by rw [hw7]; exact H6o.out
            have hbw : Below G w w7 := by
              have hb := HB.out
              exact ⟨h7o.1.trans hb.os, h7o.2.1.trans hb.tape, h7o.2.2.trans hb.output, by have := hb.size; omega, fun b hbG => by rw [hk7 b (by omega) (by omega)]; exact hb.block b hbG⟩
            have HN := Lib.hid (HOne.out w7 (Lib.compact sv) (.slice (some ⟨b5, 0, none⟩) (Lib.compact sv).length c5) o8 (fun b hb => by simpa [Value.ownBlock] using hb) (fun b hb hne => hk7 b hb (fun e => hne (by rw [e]; rfl))))
            rw [HSet.out] at HN
            have HB2 := Lib.hid (below_put (i := a) (v := .slice (some ⟨b5, 0, none⟩) (Lib.compact sv).length c5) hbw (Nat.le_refl G))
            have hGlt : G < wr.heap.size := World.block_lt_of_cell? _ _ e5
            have e7 : w7.cell? ⟨G, a, none⟩ = some (.slice (some ⟨b5, 0, none⟩) rv.length c5) := (World.cell?_of_block (w := wr) (hk7 G hGlt hGb)).trans e5
            have f7 : w7.frozen? ⟨G, a, none⟩ = false := (World.frozen?_of_block (w := wr) (hk7 G hGlt hGb)).trans f5
            clear HOne HSet HB o7 o8 hk7 hs7 h7o hbw HO6 HK6 H6o HCC hw7 e5 f5
            generalize Lib.compact sv = cv at *
            go_wp2
            go_roundw
            case rel => exact ⟨a + 1, by go_num, by omega, HN, HB2⟩
            case measure => simp [intOf]; omega
        · obtain rfl : a = g.length := by omega
          have HQ : Hid (RowsD wr G (.slice (some ⟨G, 0, none⟩) g.length g.length) (quotL g s)) := Lib.hid (by rw [← sortF_end g s Q]; exact HO.out)
          go_wp2
          go_ret
          exact ⟨_, rfl, by rw [← HGG.out]; exact HQ.out.rows, by rw [← HGG.out]; exact HB.out⟩
set_option maxRecDepth 100000 in
set_option maxHeartbeats 4000000 in
theorem devQuot_k : DevQuot := by
  intro A B c d g s w hh hs hz
  have CW := Lib.hid (devWithout_c A B c d g s w hh hs hz.1 hz.2)
  rcases chkG_cases g s.length with ⟨h0, hv, hsl⟩ | h0 | h0
  · have hN : quoL g s = quotL g s := by unfold quoL; rw [if_pos h0]
    have hW : woL g s = woG g s := by unfold woL; rw [if_pos h0]
    rw [h0, hW] at CW
    rw [h0, hN]
    have HH := Lib.hid hh
    have HS := Lib.hid hs
    have HV := Lib.hid hv
    have HSL := Lib.hid hsl
    clear hh hs hz h0 hN hW hsl hv
    go_enter Try.func14, Try.ntmps14
    go_wp2_with fail
    refine CW.out.mono ?_
    rintro e w2 ⟨u, rfl, hu, hb⟩
    obtain ⟨A2, c2, rfl, hr⟩ := hu.at_
    have CN := nameAll_c A2 B c2 d (woG g s) s w2 hr (HS.out.keep hb) (woG_valid HV.out) (by rw [woG_length]; exact HSL.out)
    rw [names_own, woG_length] at CN
    rw [woG_length]
    have HCN := Lib.hid CN
    have HB := Lib.hid hb
    have HR := Lib.hid hr
    clear CN hr hb CW hu
    go_wp2_with fail
    refine HCN.out.mono ?_
    rintro e w3 ⟨u3, rfl, h3, hb3⟩
    obtain ⟨A3, c3, rfl, h4⟩ := IRow.holds h3
    have CQ := Lib.hid (quotOf_c A2 A3 c2 c3 g s w3 (HR.out.keep hb3) h4 HV.out)
    have HB3 := Lib.hid (HB.out.trans (hb3.mono HB.out.size))
    clear h3 h4 hb3 HCN
    go_wp2_with fail
    refine CQ.out.mono ?_
    rintro e w4 ⟨u4, rfl, h5, hb4⟩
    obtain ⟨A4, c4, rfl, h6⟩ := h5.at_
    have H6 := Lib.hid h6
    have HB4 := Lib.hid (HB3.out.trans (hb4.mono HB3.out.size))
    clear h5 h6 hb4 CQ
    go_wp2
    go_ret2
    exact ⟨A4, c4, rfl, H6.out, HB4.out⟩
  · have hN : quoL g s = [] := by unfold quoL; rw [if_neg (by omega)]
    rw [h0] at CW
    rw [h0, hN]
    clear hh hs hz h0 hN
    go_enter Try.func14, Try.ntmps14
    go_wp2_with fail
    refine CW.out.mono ?_
    rintro e w2 ⟨u, rfl, hu, hb⟩
    go_wp2
    go_ret2
    exact ⟨none, 0, rfl, .inl rfl, hb⟩
  · have hN : quoL g s = [] := by unfold quoL; rw [if_neg (by omega)]
    rw [h0] at CW
    rw [h0, hN]
    clear hh hs hz h0 hN
    go_enter Try.func14, Try.ntmps14
    go_wp2_with fail
    refine CW.out.mono ?_
    rintro e w2 ⟨u, rfl, hu, hb⟩
    go_wp2
    go_ret2
    exact ⟨none, 0, rfl, .inl rfl, hb⟩
end Go.Proofs.Ytcljmgchghjncaa
