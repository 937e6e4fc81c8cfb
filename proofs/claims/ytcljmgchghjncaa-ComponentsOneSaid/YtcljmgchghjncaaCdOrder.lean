/- components' Order keeps what ChBase asks. -/
import Derived.Test.YtcljmgchghjncaaCdLeast
import Derived.Deep.LoopGhost
namespace Go.Proofs.Ytcljmgchghjncaa
open Go Go.RowKit Fl

abbrev Z24i : Array Value := #[.int .i64 0, .int .i64 0, .int .i64 0, .int .i64 0, .int .i64 0, .int .i64 0, .int .i64 0, .int .i64 0, .int .i64 0, .int .i64 0, .int .i64 0, .int .i64 0, .int .i64 0, .int .i64 0, .int .i64 0, .int .i64 0, .int .i64 0, .int .i64 0, .int .i64 0, .int .i64 0, .int .i64 0, .int .i64 0, .int .i64 0, .int .i64 0]
theorem Try.undT : Try.prog.underlying 52 = some (.array 24 3) := by kernel_rfl
theorem Try.sizeT : (Try.prog.info? 52).map (·.size) = some 24 := by kernel_rfl
theorem sizeTl {l : List Value} (h : l.length = 24) : (Try.prog.info? 52).map (·.size) = some l.toArray.size := by rw [List.size_toArray, h]; exact Try.sizeT
theorem load_t {ops : Array Oper} {rest : List Oper} {o : Oper} {a : Act} {w : World} {Q : Exit → Act → World → Prop} (hgd : o.guard = none) (x : Operand) (ho : o.op = .load 52 x) (g : Nat) (hx : a.eval x = .pointer (some ⟨g, 0, none⟩)) {l : List Value} (hm : ArrC w g 52 l) (hl : l.length = 24)
    (h : wpList Try.prog ops Q rest (a.put o.dst (.agg l.toArray)) w) : wpList Try.prog ops Q (o :: rest) a w :=
  wpList_load_row hgd _ x ho g hx _ _ _ _ hm Try.undT rfl (sizeTl hl) h
theorem zeros_t (w : World) : ArrC (w.alloc (.cells Z24i 52)) w.heap.size 52 (trL fun _ => 0) := by
  unfold ArrC
  rw [heap_alloc_new]
  rfl
theorem quot_nat {g : GraphD} {s : List Bool} {a k : Nat} (h : k < (quotRow g s a).length) : ∃ t : Nat, (quotRow g s a)[k] = (t : Int) ∧ t < g.length := by
  obtain ⟨u, x, _, _, hx, hz, _⟩ := quotRow_mem.1 (List.getElem_mem h)
  obtain ⟨t, ht⟩ := Int.eq_ofNat_of_zero_le hz
  rw [ht] at hx
  exact ⟨t, ht, (name_name hx).2.1⟩
theorem quot_len (g : GraphD) (s : List Bool) (a : Nat) : (quotRow g s a).length ≤ g.length := by
  have hs2 : (quotRow g s a).length ≤ ((List.range g.length).map fun v : Nat => (v : Int)).length := by
    refine List.Nodup.length_le_of_subset (row_nodup g s a) fun z hz => ?_
    obtain ⟨i, hi, rfl⟩ := List.mem_iff_getElem.1 hz
    obtain ⟨t, ht, htl⟩ := quot_nat hi
    rw [ht]
    exact List.mem_map.2 ⟨t, List.mem_range.2 htl, rfl⟩
  simpa using hs2
theorem own_grown {w w' : World} {base n : Nat} {e : TypeId} {v : Value} {xs : List Value} {row : Option Nat} (h : w.ownsRow base e 1 v n xs) (hg : w.grownBy w' row) (hne : ∀ b, v.ownBlock = some b → some b ≠ row) : w'.ownsRow base e 1 v n xs := by
  obtain ⟨h1, hr⟩ := h
  refine ⟨h1, ?_⟩
  rcases hr with hr | ⟨b, cap, cur, hv, hgb, hh, hrest⟩
  · exact .inl hr
  · exact .inr ⟨b, cap, cur, hv, hgb, (hg.block b (block_lt hh) (hne b (by rw [hv]; rfl))).trans hh, hrest⟩
theorem ord_len {g : GraphD} {s : List Bool} {out : List Int} (h : OrdOk g s out) : out.length ≤ g.length := by
  have hs : out.length ≤ ((List.range g.length).map fun v : Nat => (v : Int)).length := by
    refine List.Nodup.length_le_of_subset h.nodup fun z hz => ?_
    obtain ⟨v, rfl, hv, _⟩ := h.name z hz
    exact List.mem_map.2 ⟨v, List.mem_range.2 hv, rfl⟩
  simpa using hs
set_option maxRecDepth 100000 in
set_option maxHeartbeats 8000000 in
theorem devOrder_k : DevOrder := by
  intro A B c d g s w hh hs hz
  have CW := Lib.hid (devWithout_c A B c d g s w hh hs hz.1 hz.2)
  rcases chkG_cases g s.length with ⟨h0, hv, hsl⟩ | h0 | h0
  · have hN : ordL g s = orderL g s := by unfold ordL; rw [if_pos h0]
    have hW : woL g s = woG g s := by unfold woL; rw [if_pos h0]
    have hl24 := validG_len hv
    rw [h0, hW] at CW
    rw [h0, hN]
    have HH := Lib.hid hh
    have HS := Lib.hid hs
    have HV := Lib.hid hv
    have HSL := Lib.hid hsl
    clear hh hs hz h0 hN hW hsl hv
    go_enter Try.func12, Try.ntmps12
    go_wp2_with fail
    refine CW.out.mono ?_
    rintro e w2 ⟨u, rfl, hu, hb⟩
    obtain ⟨A2, c2, rfl, hr⟩ := hu.at_
    have CN := nameAll_c A2 B c2 d (woG g s) s w2 hr (HS.out.keep hb) (woG_valid HV.out) (by rw [woG_length]; exact HSL.out)
    rw [names_own, woG_length] at CN
    rw [woG_length]
    have HCN := Lib.hid CN
    have HB := Lib.hid hb
    have HR := Lib.hid hr
    clear CN hr hb CW hu
    go_wp2_with fail
    refine HCN.out.mono ?_
    rintro e w3 ⟨u3, rfl, h3, hb3⟩
    obtain ⟨A3, c3, rfl, h4⟩ := IRow.holds h3
    have CQ := Lib.hid (quotOf_c A2 A3 c2 c3 g s w3 (HR.out.keep hb3) h4 HV.out)
    have HB3 := Lib.hid (HB.out.trans (hb3.mono HB.out.size))
    have HN3 := Lib.hid h4
    clear h3 h4 hb3 HCN
    go_wp2_with fail
    refine CQ.out.mono ?_
    rintro e w4 ⟨u4, rfl, h5, hb4⟩
    obtain ⟨A4, c4, rfl, h6⟩ := h5.at_
    rw [quotL_length]
    have HQ4 := Lib.hid h6
    have HN4 := Lib.hid (HN3.out.keep hb4)
    have HB4 := Lib.hid (HB3.out.trans (hb4.mono HB3.out.size))
    clear h5 h6 hb4 CQ
    have HT5 : Hid (ArrC (w4.alloc (.cells Z24i 52)) w4.heap.size 52 (trL (bfn g s fun a => decide (a < 0)))) := Lib.hid (by
      rw [show bfn g s (fun a => decide (a < 0)) = fun _ => 0 from funext fun x => bfn_none g s x]
      exact zeros_t w4)
    have HB5 := Lib.hid (below_alloc w4 (.cells Z24i 52))
    go_wp2
    obtain ⟨T, hT⟩ : ∃ T, w4.heap.size = T := ⟨_, rfl⟩
    have HTT := Lib.hid hT
    rw [hT] at HT5 HB5 ⊢
    clear hT
    generalize w4.alloc (.cells Z24i 52) = w5 at *
    go_loopw [37] (fun iv wr => ∃ a : Nat, iv = .int .i64 a ∧ a ≤ g.length ∧ Hid (ArrC wr T 52 (trL (bfn g s fun b => decide (b < a)))) ∧ Hid (Below T w4 wr)) (fun iv _ => g.length - (intOf iv).toNat)
    case atStart => exact ⟨0, rfl, Nat.zero_le _, HT5, HB5⟩
    case round =>
      clear HT5 HB5
      obtain ⟨a, rfl, ha, HTa, HBa⟩ := hrel
      by_cases hat : a < g.length
      · have hqa : a < (quotL g s).length := by rw [quotL_length]; exact hat
        obtain ⟨bq, oq, Ar, cr, rfl, eq1, hq1⟩ := HQ4.out.one hqa
        rw [quotL_at] at eq1 hq1
        have hbq : bq < T := by have h : bq < w4.heap.size := World.block_lt_of_cell? _ _ eq1; have := HTT.out; omega
        have e1 := (HBa.out.cell (p := ⟨bq, oq + a, none⟩) hbq).trans eq1
        have HR1 := Lib.hid hq1
        have HT0 : Hid (ArrC wr T 52 (trL (addF g s (fun b => decide (b < a)) a 0))) := Lib.hid (by rw [addF_zero]; exact HTa.out)
        have hql : (quotRow g s a).length ≤ 24 := Nat.le_trans (quot_len g s a) hl24
        clear eq1 hq1 hqa HTa
        go_wp2
        clear e1
        go_loopw [43] (fun iv wr => ∃ k : Nat, iv = .int .i64 k ∧ k ≤ (quotRow g s a).length ∧ Hid (ArrC wr T 52 (trL (addF g s (fun b => decide (b < a)) a k))) ∧ Hid (Below T w4 wr)) (fun iv _ => (quotRow g s a).length - (intOf iv).toNat)
        case atStart => exact ⟨0, rfl, Nat.zero_le _, HT0, HBa⟩
        case round =>
          clear HT0 HBa
          obtain ⟨k, rfl, hk, HTk, HBk⟩ := hrel
          by_cases hkt : k < (quotRow g s a).length
          · obtain ⟨br, or_, rfl, e2⟩ := HR1.out.iv hkt
            have hbr : br < T := by have h : br < w4.heap.size := World.block_lt_of_cell? _ _ e2; have := HTT.out; omega
            obtain ⟨t, ht, htl⟩ := quot_nat hkt
            rw [ht] at e2
            have e2r := (HBk.out.cell (p := ⟨br, or_ + k, none⟩) hbr).trans e2
            have ht24 : t < 24 := by omega
            obtain ⟨eT, fT⟩ := HTk.out.cell (trL_at (f := addF g s (fun b => decide (b < a)) a k) ht24)
            obtain ⟨q1, q2⟩ := addF_step (P := fun b => decide (b < a)) hkt ht
            have hle : addF g s (fun b => decide (b < a)) a k t ≤ 24 := by rw [q1]; exact Nat.le_trans (bfn_le _ _ _ _) hl24
            obtain ⟨ft, hft⟩ : ∃ ft, addF g s (fun b => decide (b < a)) a k t = ft := ⟨_, rfl⟩
            have HTn : Hid (ArrC (wr.setCell ⟨T, t, none⟩ (.int .i64 ((ft : Int) + 1))) T 52 (trL (addF g s (fun b => decide (b < a)) a (k + 1)))) := Lib.hid (by
              rw [← q2, hft, ← trL_set, show ((ft + 1 : Nat) : Int) = (ft : Int) + 1 by omega]
              exact HTk.out.set t _)
            rw [hft] at eT hle
            have HBn := Lib.hid (below_put (i := t) (v := .int .i64 ((ft : Int) + 1)) HBk.out (Nat.le_refl T))
            clear e2 q1 q2 hft HTk HBk ht
            go_wp2
            go_roundw
            case rel => exact ⟨k + 1, by go_num, by omega, HTn, HBn⟩
            case measure => simp [intOf]; omega
          · have HTn : Hid (ArrC wr T 52 (trL (bfn g s fun b => decide (b < a + 1)))) := Lib.hid (by
              rw [← addF_all (P := fun b => decide (b < a)) (P' := fun b => decide (b < a + 1)) (a0 := a) (k := k) (by omega) hat (fun b hb => decide_eq_decide.2 (by omega)) (by simp) (by simp)]
              exact HTk.out)
            clear HTk
            go_wp2
            go_roundw
            case rel => exact ⟨a + 1, by go_num, by omega, HTn, HBk⟩
            case measure => simp [intOf]; omega
      · obtain rfl : a = g.length := by omega
        have hbn : bfn g s (fun b => decide (b < g.length)) = bfn g s (notIn []) := funext fun x => bfn_congr fun a ha => by simp [notIn, ha]
        have HT6 : Hid (ArrC (wr.alloc (.cells Z24b 54)) T 52 (trL (bfn g s (notIn [])))) := Lib.hid (by rw [← hbn]; exact HTa.out.alloc _)
        obtain ⟨M0, hM0⟩ : ∃ M0, M0 = List.replicate 24 false := ⟨_, rfl⟩
        have HM6 : Hid (ArrC (wr.alloc (.cells Z24b 54)) wr.heap.size 54 (M0.map Bo)) := Lib.hid (by rw [hM0, List.map_replicate]; exact zeros_c wr)
        have hTw := HTa.out.lt
        have HB6 := Lib.hid (HBa.out.alloc (by have := HBa.out.size; have := HTT.out; omega) (.cells Z24b 54))
        have hs6 : (wr.alloc (.cells Z24b 54)).heap.size = wr.heap.size + 1 := by simp
        have hTn := HTT.out
        have hml : M0.length = 24 := by rw [hM0]; simp
        have hMk : ∀ x : Nat, atB M0 x = true ↔ (x : Int) ∈ ([] : List Int) := fun x => by
          rw [hM0]
          constructor
          · intro h
            unfold atB at h
            rw [List.getD_eq_getElem?_getD, List.getElem?_replicate] at h
            split at h <;> simp at h
          · intro h; simp at h
        have HMk := Lib.hid hMk
        have CF := leastFree_c A3 c3 g s (bfn g s (notIn [])) M0 (wr.alloc (.cells Z24b 54)) (HN4.out.keep (HB6.out.mono (by omega))) hl24 hml (fun x => Nat.le_trans (bfn_le _ _ _ _) (by omega))
        rw [best_free (OrdOk.nil g s) hMk] at CF
        have HCF := Lib.hid CF
        have hm24 : (M0.map Bo).length = 24 := by simpa using hml
        clear CF HTa HBa hbn hM0 hMk
        go_wp2_with (first | refine load_t rfl _ (by rfl) T (by rfl) HT6.out (trL_length _) ?_ | refine load_c rfl _ (by rfl) wr.heap.size (by rfl) HM6.out hm24 ?_ | fail)
        refine HCF.out.mono ?_
        rintro e w7 ⟨rfl, hb7⟩
        have HT7 := Lib.hid (HT6.out.same (hb7.block T (by omega)))
        have HM7 := Lib.hid (HM6.out.same (hb7.block wr.heap.size (by omega)))
        have HB7 := Lib.hid (HB6.out.trans (hb7.mono (by omega)))
        have hs7 : wr.heap.size + 1 ≤ w7.heap.size := by have := hb7.size; omega
        have HO7 := Lib.hid (World.ownsRow_nil w7 (wr.heap.size + 1) 3 1)
        have HOk := Lib.hid (OrdOk.nil g s)
        have HRu := Lib.hid (orderL_runs g s)
        clear hb7 HT6 HM6 HB6 HCF hm24 hs6 hTn
        go_wp2
        generalize wr.heap.size = T2 at *
        go_loopg [15, 17] (leftN g []) (fun gk ov nm wx => ∃ (out : List Int) (M : List Bool), nm = .int .i64 (leastZ (best g s out)) ∧ leftN g out ≤ gk ∧ M.length = 24 ∧ Hid (OrdOk g s out) ∧ Hid (Runs g s out (orderL g s)) ∧ Hid (∀ x : Nat, atB M x = true ↔ (x : Int) ∈ out) ∧ Hid (wx.ownsRow (T2 + 1) 3 1 ov out.length (out.map Iv)) ∧ Hid (ArrC wx T2 54 (M.map Bo)) ∧ Hid (ArrC wx T 52 (trL (bfn g s (notIn out)))) ∧ Hid (Below T w4 wx) ∧ T2 + 1 ≤ wx.heap.size)
        case atStart => exact ⟨[], M0, rfl, Nat.le_refl _, hml, HOk, HRu, HMk, HO7, HM7, HT7, HB7, hs7⟩
        case round =>
          clear HOk HRu HMk HO7 HM7 HT7 HB7 hs7 hml
          obtain ⟨out, M, rfl, hgk, hml, HOk, HRu, HMk, HO, HM, HT, HBx, hsx⟩ := hrel
          have hol := ord_len HOk.out
          rcases hbst : best g s out with _ | v
          · have HE := Lib.hid (HRu.out.none hbst)
            obtain ⟨Ao, co, rfl, ho⟩ := own_is HO.out
            have HHo := Lib.hid ho
            have hneg : leastZ none = -1 := rfl
            rw [hneg]
            clear ho hbst HO hneg
            go_wp2
            go_ret2
            exact ⟨Ao, co, by rw [← HE.out]; rfl, by rw [← HE.out]; exact HHo.out, HB4.out.trans (HBx.out.mono (by have := HB4.out.size; have := HTT.out; omega))⟩
          · have hpos : leastZ (some v) = (v : Int) := rfl
            rw [hpos]
            obtain ⟨hvn, hcand⟩ := best_some hbst
            have hc3 := cand_iff.1 hcand
            have HOk2 := Lib.hid (HOk.out.step hbst)
            have HRu2 := Lib.hid (HRu.out.some hbst)
            have hleft := best_left hbst
            have hv24 : v < 24 := by omega
            have HSub : Hid (subF g s (notIn (out ++ [(v : Int)])) v 0 = bfn g s (notIn out)) := Lib.hid (subF_zero hvn (fun a ha => by
              unfold notIn
              refine decide_eq_decide.2 (not_congr ?_)
              rw [List.mem_append, List.mem_singleton]
              constructor
              · exact .inl
              · rintro (h | h)
                · exact h
                · omega) (by simp [notIn]) (by simp [notIn, hc3.2.1]))
            have HMk2 : Hid (∀ x : Nat, atB (M.set v true) x = true ↔ (x : Int) ∈ out ++ [(v : Int)]) := Lib.hid (fun x => by
              rw [atB_set (by omega), HMk.out, List.mem_append, List.mem_singleton]
              constructor
              · rintro (h | h)
                · exact .inr (by omega)
                · exact .inl h
              · rintro (h | h)
                · exact .inr h
                · exact .inl (by omega))
            have HOa := Lib.hid (fun ob => HO.out.alloc ob)
            clear hpos hcand hc3 hbst HRu HMk HO HOk
            go_wp2_with (at_builtin; refine app_int _ rfl _ _ (by rfl) (T2 + 1) u15 out.length (out.map Iv) (by rfl) (HOa.out _) _ v (by rfl) (by simp) (by omega) (by simp; omega) ?_)
            intro ov8 w8 hown hgr
            have hlo := own_base (HOa.out (.cells #[] 0))
            have hm24 : v < M.length := by omega
            have hM8 := (HM.out.alloc (.cells #[.int .i64 v] 3)).grown hgr (fun e => by have := hlo T2 e.symm; omega)
            have hT8 := (HT.out.alloc (.cells #[.int .i64 v] 3)).grown hgr (fun e => by have := hlo T e.symm; omega)
            have hTn := HTT.out
            have hTx := HBx.out.size
            have hB8 := (HBx.out.alloc (by omega) (.cells #[.int .i64 v] 3)).grown hgr (by simp; omega) (fun k hk => by have := hlo k hk; omega)
            have hs8 : T2 + 1 ≤ w8.heap.size := by have := hgr.size; simp at this; omega
            obtain ⟨cu, c1, f1⟩ : ∃ cu, w8.cell? ⟨T2, v, none⟩ = some cu ∧ w8.frozen? ⟨T2, v, none⟩ = false := ⟨_, hM8.cell (k := v) (u := .bool M[v]) (by rw [List.getElem?_map, List.getElem?_eq_getElem hm24]; rfl)⟩
            have HM9 : Hid (ArrC (w8.setCell ⟨T2, v, none⟩ (.bool true)) T2 54 ((M.set v true).map Bo)) := Lib.hid (by rw [List.map_set]; exact hM8.set v _)
            have HT9 : Hid (ArrC (w8.setCell ⟨T2, v, none⟩ (.bool true)) T 52 (trL (subF g s (notIn (out ++ [(v : Int)])) v 0))) := Lib.hid (by rw [HSub.out]; exact hT8.put (by omega))
            have HB9 := Lib.hid (below_put (i := v) (v := .bool true) hB8 (show T ≤ T2 by omega))
            have hs9 : T2 + 1 ≤ (w8.setCell ⟨T2, v, none⟩ (.bool true)).heap.size := by simpa [World.setCell] using hs8
            have HO9 : Hid ((w8.setCell ⟨T2, v, none⟩ (.bool true)).ownsRow (T2 + 1) 3 1 ov8 (out ++ [(v : Int)]).length ((out ++ [(v : Int)]).map Iv)) := Lib.hid (own_other (by simpa using hown) (fun b hb => Below.heap_setCell _ _ _ _ (show b ≠ T2 by omega)))
            have hqa : v < (quotL g s).length := by rw [quotL_length]; exact hvn
            obtain ⟨bq, oq, Ar, cr, rfl, eq1, hq1⟩ := HQ4.out.one hqa
            rw [quotL_at] at eq1 hq1
            have hbq : bq < T := by have h : bq < w4.heap.size := World.block_lt_of_cell? _ _ eq1; omega
            have e9 : w8.cell? ⟨bq, oq + v, none⟩ = some (.slice Ar (quotRow g s v).length cr) := (hB8.cell (p := ⟨bq, oq + v, none⟩) hbq).trans eq1
            have hTb : ¬ T2 = bq := by omega
            have HR9 := Lib.hid hq1
            have hml2 : (M.set v true).length = 24 := by simpa using hml
            have hql2 : (quotRow g s v).length ≤ 24 := Nat.le_trans (quot_len g s v) hl24
            clear eq1 hq1 hqa hown hgr hM8 hT8 hB8 hs8 HOa HM HT HBx HSub hlo hTx hTn
            go_wp2
            clear c1 f1 e9 hTb
            generalize w8.setCell ⟨T2, v, none⟩ (.bool true) = w9 at *
            obtain ⟨wo, hwo⟩ : ∃ wo, wo = wr := ⟨_, rfl⟩
            clear hwo
            go_loopw [75] (fun iv wy => ∃ k : Nat, iv = .int .i64 k ∧ k ≤ (quotRow g s v).length ∧ Hid (ArrC wy T 52 (trL (subF g s (notIn (out ++ [(v : Int)])) v k))) ∧ Hid (w9.grownBy wy (some T))) (fun iv _ => (quotRow g s v).length - (intOf iv).toNat)
            case atStart => exact ⟨0, rfl, Nat.zero_le _, HT9, Lib.hid (World.grownBy.refl _ _)⟩
            case round =>
              clear HT9
              obtain ⟨k, rfl, hk, HTk, HGk⟩ := hrel
              by_cases hkt : k < (quotRow g s v).length
              · obtain ⟨br, or_, rfl, e2⟩ := HR9.out.iv hkt
                have hbr : br < T := by have h : br < w4.heap.size := World.block_lt_of_cell? _ _ e2; have := HTT.out; omega
                obtain ⟨t, ht, htl⟩ := quot_nat hkt
                rw [ht] at e2
                have e2r := HGk.out.cell ((HB9.out.cell (p := ⟨br, or_ + k, none⟩) hbr).trans e2) (by intro e; injection e with e; have e' : br = T := e; omega)
                have ht24 : t < 24 := by omega
                obtain ⟨eT, fT⟩ := HTk.out.cell (trL_at (f := subF g s (notIn (out ++ [(v : Int)])) v k) ht24)
                obtain ⟨q1, q2⟩ := subF_step (P := notIn (out ++ [(v : Int)])) hkt ht
                have hle := bfn_le g s (notIn (out ++ [(v : Int)])) t
                obtain ⟨ft, hft⟩ : ∃ ft, bfn g s (notIn (out ++ [(v : Int)])) t = ft := ⟨_, rfl⟩
                rw [q1, hft] at eT
                rw [hft] at hle
                have eT' : wr.cell? ⟨T, t, none⟩ = some (.int .i64 ((ft : Int) + 1)) := eT
                have HTn : Hid (ArrC (wr.setCell ⟨T, t, none⟩ (.int .i64 ft)) T 52 (trL (subF g s (notIn (out ++ [(v : Int)])) v (k + 1)))) := Lib.hid (by
                  rw [← q2, hft, ← trL_set]
                  exact HTk.out.set t _)
                have HGn := Lib.hid (grown_put (k := t) (u := .int .i64 ft) HGk.out (.inl rfl))
                clear e2 q1 q2 hft HTk HGk ht eT
                go_wp2
                go_roundw
                case rel => exact ⟨k + 1, by go_num, by omega, by simpa using HTn, by simpa using HGn⟩
                case measure => simp [intOf]; omega
              · have HTn : Hid (ArrC wr T 52 (trL (bfn g s (notIn (out ++ [(v : Int)]))))) := Lib.hid (by
                  rw [← subF_all (P := notIn (out ++ [(v : Int)])) (a0 := v) (k := k) (by omega)]
                  exact HTk.out)
                have HMn := Lib.hid (HM9.out.grown HGk.out (fun e => by injection e with e; omega))
                have HBn := Lib.hid (HB9.out.grown HGk.out (by have := HB9.out.size; omega) (fun j hj => by injection hj with hj; omega))
                have HOn := Lib.hid (own_grown HO9.out HGk.out (fun b hb e => by have := own_base HO9.out b hb; injection e with e; omega))
                have hsn : T2 + 1 ≤ wr.heap.size := Nat.le_trans hs9 HGk.out.size
                have CF := leastFree_c A3 c3 g s (bfn g s (notIn (out ++ [(v : Int)]))) (M.set v true) wr (HN4.out.keep (HBn.out.mono (by have := HTT.out; omega))) hl24 hml2 (fun x => Nat.le_trans (bfn_le _ _ _ _) (by omega))
                rw [best_free HOk2.out HMk2.out] at CF
                have HCF := Lib.hid CF
                have hm24' : ((M.set v true).map Bo).length = 24 := by simpa using hml2
                clear CF HTk HGk HM9 HB9 HO9 hs9 hml
                generalize M.set v true = M2 at *
                generalize out ++ [(v : Int)] = out2 at *
                go_wp2_with (first | refine load_t rfl _ (by rfl) T (by rfl) HTn.out (trL_length _) ?_ | refine load_c rfl _ (by rfl) T2 (by rfl) HMn.out hm24' ?_ | fail)
                refine HCF.out.mono ?_
                rintro e wl ⟨rfl, hbl⟩
                have HTl := Lib.hid (HTn.out.same (hbl.block T (by omega)))
                have HMl := Lib.hid (HMn.out.same (hbl.block T2 (by omega)))
                have HBl := Lib.hid (HBn.out.trans (hbl.mono (by omega)))
                have HOl := Lib.hid (ownsRow_below HOn.out hbl)
                have hsl : T2 + 1 ≤ wl.heap.size := Nat.le_trans hsn hbl.size
                clear hbl HTn HMn HBn HOn hsn HCF hm24'
                go_wp2
                go_roundg (leftN g out2)
                case measure => omega
                case rel => exact ⟨out2, M2, rfl, Nat.le_refl _, hml2, HOk2, HRu2, HMk2, HOl, HMl, HTl, HBl, hsl⟩
  · have hN : ordL g s = [] := by unfold ordL; rw [if_neg (by omega)]
    rw [h0] at CW
    rw [h0, hN]
    clear hh hs hz h0 hN
    go_enter Try.func12, Try.ntmps12
    go_wp2_with fail
    refine CW.out.mono ?_
    rintro e w2 ⟨u, rfl, hu, hb⟩
    go_wp2
    go_ret2
    exact ⟨none, 0, rfl, .nil, hb⟩
  · have hN : ordL g s = [] := by unfold ordL; rw [if_neg (by omega)]
    rw [h0] at CW
    rw [h0, hN]
    clear hh hs hz h0 hN
    go_enter Try.func12, Try.ntmps12
    go_wp2_with fail
    refine CW.out.mono ?_
    rintro e w2 ⟨u, rfl, hu, hb⟩
    go_wp2
    go_ret2
    exact ⟨none, 0, rfl, .nil, hb⟩
end Go.Proofs.Ytcljmgchghjncaa
