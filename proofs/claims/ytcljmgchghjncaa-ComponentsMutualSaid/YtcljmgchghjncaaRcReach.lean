/- Contracts of the reference's Reach and From of layer 4: which vertices a vertex reaches. -/
import Derived.Test.YtcljmgchghjncaaRcBfs
import Derived.Test.YtcljmgchghjncaaRcQueue
import Derived.Test.YtcljmgchghjncaaGrValid
import Derived.Test.YtcljmgchghjncaaGrSame
import Derived.Deep.LoopGhost
namespace Go.Proofs.Ytcljmgchghjncaa
open Go Go.RowKit Fl

theorem own_row_other {w w' : World} {base n : Nat} {e t : TypeId} {v : Value} {xs : List Value} {row : Option Nat} (h : w.ownsRow base e 1 v n xs) (hg : w.grownBy w' row) (hr : ∀ k, row = some k → ∃ cur, w.heap[k]? = some (.cells cur t (0, 0))) (ht : e ≠ t) : w'.ownsRow base e 1 v n xs := by
  obtain ⟨h1, hr1⟩ := h
  refine ⟨h1, ?_⟩
  rcases hr1 with hr1 | ⟨b, cap, cur, hv, hgb, hh, hrest⟩
  · exact .inl hr1
  · refine .inr ⟨b, cap, cur, hv, hgb, (hg.block b (block_lt hh) (fun e1 => ?_)).trans hh, hrest⟩
    obtain ⟨cur', h2⟩ := hr b e1.symm
    rw [hh] at h2
    injection h2 with h2
    injection h2 with _ h3
    exact ht h3
theorem own_marks {w : World} {base n g cap : Nat} {L : List Bool} (h : w.ownsRow base 4 1 (.slice (some ⟨g, 0, none⟩) n cap) n (L.map Bo)) (i : Nat) (hi : i < L.length) : w.cell? ⟨g, i, none⟩ = some (.bool L[i]) ∧ w.frozen? ⟨g, i, none⟩ = false :=
  own_get h (by simp [hi])
theorem own_marks_set {w : World} {base n g cap : Nat} {L : List Bool} (h : w.ownsRow base 4 1 (.slice (some ⟨g, 0, none⟩) n cap) n (L.map Bo)) (i : Nat) (z : Bool) : (w.setCell ⟨g, i, none⟩ (.bool z)).ownsRow base 4 1 (.slice (some ⟨g, 0, none⟩) n cap) n ((L.set i z).map Bo) := by
  rw [List.map_set]; exact own_put h
theorem own_row_block {w : World} {base n g cap : Nat} {e : TypeId} {xs : List Value} (h : w.ownsRow base e 1 (.slice (some ⟨g, 0, none⟩) n cap) n xs) : ∃ cs, w.heap[g]? = some (.cells cs e (0, 0)) := by
  obtain ⟨_, h⟩ := h
  rcases h with ⟨hv, _⟩ | ⟨g', cap', cur, hv, _, hh, _⟩
  · cases hv
  · injection hv with hA _ _
    injection hA with hA
    injection hA with hA
    subst hA
    exact ⟨cur, hh⟩
theorem atB_at {s : List Bool} {v : Nat} (h : v < s.length) : atB s v = s[v] := by unfold atB; rw [List.getD_eq_getElem?_getD, List.getElem?_eq_getElem h]; rfl
theorem alloc_set (w : World) (a : Addr) (u : Value) (o : Obj) : ((w.setCell a u).alloc o).heap[w.heap.size]? = some o := by
  have h := heap_alloc_new (w.setCell a u) o
  have e : (w.setCell a u).heap.size = w.heap.size := by simp [World.setCell]
  rwa [e] at h
set_option maxRecDepth 100000 in
set_option maxHeartbeats 8000000 in
theorem reach_c (A B : Option Addr) (c d : Nat) (g : GraphD) (s : List Bool) (v : Nat) (w : World) (hh : RowsAt w A g) (hs : Holds w B (s.map Bo)) (hg : validG g = true) (hsl : s.length = g.length) (hv : v < g.length) :
    Calls Try.prog 26 #[.slice A g.length c, .slice B s.length d, .int .i64 v] w fun e w' => ∃ u, e = .returned u ∧ w'.ownsRow w.heap.size 4 1 u g.length ((reachL g s v).map Bo) ∧ Below w.heap.size w w' := by
  have hvs : v < s.length := by omega
  obtain ⟨bs, os, rfl, hsc⟩ := hs.bo hvs
  have hbs : bs < w.heap.size := World.block_lt_of_cell? _ _ hsc
  have hat := atB_at hvs
  have HH := Lib.hid hh
  have HS := Lib.hid hs
  have HG := Lib.hid hg
  have HSL := Lib.hid hsl
  have hl24 := validG_len hg
  have HR24 := Lib.hid (validG_short hg)
  clear hh hs hg hsl
  go_enter Try.func26, Try.ntmps26
  go_wp2_with (refine make_any _ rfl _ _ 23 4 (.bool false) 1 Try.underlying23 Try.infoBoolS rfl (by decide) rfl .i64 .i64 _ _ g.length rfl rfl rfl rfl (by omega) ?_)
  intro w1 own1 hb1
  have HO1 : Hid (w1.ownsRow w.heap.size 4 1 (.slice (some ⟨w.heap.size, 0, none⟩) g.length g.length) g.length ((List.replicate g.length false).map Bo)) := Lib.hid (by rw [List.map_replicate]; exact own1)
  obtain ⟨G, hG⟩ : ∃ G, G = w.heap.size := ⟨_, rfl⟩
  rw [← hG] at HO1 hb1 hbs ⊢
  have HGG := Lib.hid hG
  have hsc1 : w1.cell? ⟨bs, os + v, none⟩ = some (.bool s[v]) := (hb1.cell (p := ⟨bs, os + v, none⟩) hbs).trans hsc
  clear own1 hG hsc
  rcases hsv : s[v] with _ | _
  · rw [hsv] at hat hsc1
    have HI := Lib.hid (bfs_start hv hat)
    obtain ⟨cu, c1, f1⟩ : ∃ cu, w1.cell? ⟨G, v, none⟩ = some cu ∧ w1.frozen? ⟨G, v, none⟩ = false := ⟨_, own_marks HO1.out v (by simpa using hv)⟩
    have HO2 := Lib.hid (own_marks_set HO1.out v true)
    have hb2 := below_put (i := v) (v := .bool true) hb1 (Nat.le_refl _)
    have hb1' := hb1
    have hun0 : 2 * unm ((List.replicate g.length false).set v true) + 1 ≤ 100 := by
      have : unm ((List.replicate g.length false).set v true) ≤ g.length := by unfold unm; refine Nat.le_trans List.count_le_length (by simp)
      omega
    generalize (List.replicate g.length false).set v true = M0 at *
    clear hsv hat HO1 hb1
    go_wp2
    have HO3 := Lib.hid (HO2.out.alloc (.cells #[.int .i64 v] 3))
    have HQ3 : Hid (QueueOwn ((w1.setCell ⟨G, v, none⟩ (.bool true)).alloc (.cells #[.int .i64 v] 3)) G (.slice (some ⟨w1.heap.size, 0, none⟩) 1 1) [(v : Int)]) := Lib.hid (QueueOwn.one (alloc_set _ _ _ _) (by have := hb1'.size; have := HGG.out; omega))
    have hb3 := hb2.alloc (by have := hb2.size; have := HGG.out; omega) (.cells #[.int .i64 v] 3)
    clear HO2 hb2 c1 f1 hsc1
    generalize (w1.setCell ⟨G, v, none⟩ (.bool true)).alloc (.cells #[.int .i64 v] 3) = w3 at *
    go_loopg [8] (2 * unm M0 + 1) (fun gk q wr => ∃ (M : List Bool) (Q : List Int) (A1 : Option Addr) (c1 : Nat), q = .slice A1 Q.length c1 ∧ Hid (BfsInv g s v M Q) ∧ 2 * unm M + Q.length ≤ gk ∧ gk ≤ 100 ∧ Hid (QueueOwn wr G (.slice A1 Q.length c1) Q) ∧ Hid (wr.ownsRow G 4 1 (.slice (some ⟨G, 0, none⟩) g.length g.length) g.length (M.map Bo)) ∧ Below G w wr)
    case atStart => exact ⟨M0, [(v : Int)], _, _, rfl, HI, by simp, hun0, HQ3, HO3, hb3⟩
    case round =>
      clear HQ3 HO3 hb3 HI
      obtain ⟨M, Q, A1, c1, rfl, HI, hms, hql, HQ, HO, hb⟩ := hrel
      cases Q with
      | nil =>
        have HE : Hid (M = reachL g s v) := Lib.hid HI.out.end_
        go_wp2
        go_ret
        exact ⟨_, rfl, by rw [← HE.out, ← HGG.out]; exact HO.out, by rw [← HGG.out]; exact hb⟩
      | cons x Q =>
        obtain ⟨xn, rfl, hxn, hmid⟩ := HI.out.pop
        obtain ⟨b, o, cap, hv1, hcap, hx, hq⟩ := HQ.out.pop
        have HM := Lib.hid hmid
        have HQ2 := Lib.hid hq
        simp only [List.length_cons] at hv1 hms hql ⊢
        injection hv1 with hv1 _ hv2
        subst hv1 hv2
        obtain ⟨bg, og, A2, c2, rfl, e1, h1⟩ := HH.out.one hxn
        have hbg : bg < G := by have h : bg < w.heap.size := World.block_lt_of_cell? _ _ e1; have := HGG.out; omega
        have HE1 : Hid (∀ W, Below G w W → W.cell? ⟨bg, og + xn, none⟩ = some (.slice A2 g[xn].length c2)) := Lib.hid (fun W hW => (hW.cell (p := ⟨bg, og + xn, none⟩) hbg).trans e1)
        have hr24 := HR24.out _ (List.getElem_mem hxn)
        have HX := Lib.hid (rowOk_row HG.out hxn)
        have hrow := rowG_at hxn
        rw [hrow] at HX
        have HRow := Lib.hid hrow
        have H1 := Lib.hid h1
        clear hmid hq HI HQ e1 h1 hrow
        generalize g[xn] = r at *
        have hgk : 1 ≤ gk := by omega
        have hb0 := hb
        obtain ⟨o1, HO1⟩ : ∃ o1, Hid (o1 = if c1 = 1 then o else o + 1) := ⟨_, Lib.hid rfl⟩
        rw [← HO1.out] at HQ2
        rcases Nat.lt_or_ge 1 c1 with hc1 | hc1
        · have ho : o1 = o + 1 := by have := HO1.out; rw [if_neg (by omega)] at this; exact this
          have hne : ¬ c1 = 1 := by omega
          subst ho
          go_wp2
          go_loopw [8, 10] (fun q i wr => ∃ (m : Nat) (M : List Bool) (Q : List Int) (A1 : Option Addr) (c1 : Nat), i = .int .i64 m ∧ m ≤ r.length ∧ q = .slice A1 Q.length c1 ∧ Hid (BfsMid g s v M Q xn m) ∧ 2 * unm M + Q.length ≤ gk - 1 ∧ Hid (QueueOwn wr G (.slice A1 Q.length c1) Q) ∧ Hid (wr.ownsRow G 4 1 (.slice (some ⟨G, 0, none⟩) g.length g.length) g.length (M.map Bo)) ∧ Below G w wr) (fun _ i _ => r.length - (intOf i).toNat)
          case atStart => exact ⟨0, M, _, _, _, rfl, Nat.zero_le _, rfl, HM, by first | omega | (simp at hms ⊢; omega), HQ2, HO, hb⟩
          case round =>
            clear HM HQ2 HO hb hb0 hcap HO1 hms
            obtain ⟨m, M, Q, A1, c1, rfl, hm, rfl, HM, hms, HQ, HO, hb⟩ := hrel
            have e1 := HE1.out wr hb
            by_cases hmlt : m < r.length
            · obtain ⟨br, or_, rfl, e2⟩ := H1.out.iv hmlt
              have hbr : br < G := by have h : br < w.heap.size := World.block_lt_of_cell? _ _ e2; have := HGG.out; omega
              have e2r : wr.cell? ⟨br, or_ + m, none⟩ = some (.int .i64 r[m]) := (hb.cell (p := ⟨br, or_ + m, none⟩) hbr).trans e2
              obtain ⟨y0, y1, y2⟩ := HX.out r[m] (List.getElem_mem hmlt)
              obtain ⟨y, hy⟩ := Int.eq_ofNat_of_zero_le y0
              have hmr : m < (rowG g xn).length := by rw [HRow.out]; exact hmlt
              have hyr : (rowG g xn)[m] = (y : Int) := by
                have h : (rowG g xn)[m]? = some r[m] := by rw [HRow.out]; exact List.getElem?_eq_getElem hmlt
                rw [List.getElem?_eq_getElem hmr] at h
                injection h with h
                rw [h]; exact hy
              rw [hy] at e2r y1
              have hyn : y < g.length := by omega
              have hys : y < s.length := by have := HSL.out; omega
              have hyM : y < M.length := by rw [HM.out.len]; exact hyn
              obtain ⟨bs2, os2, hBeq, es⟩ := HS.out.bo hys
              injection hBeq with hBeq
              injection hBeq with hB1 hB2
              subst hB1 hB2
              have esr : wr.cell? ⟨bs, os + y, none⟩ = some (.bool s[y]) := (hb.cell (p := ⟨bs, os + y, none⟩) hbs).trans es
              obtain ⟨em, fm⟩ := own_marks HO.out y hyM
              have hS := atB_at hys
              have hMk := atB_at hyM
              have HSkip := Lib.hid (fun h => HM.out.skip (m := m) h)
              have HMark := Lib.hid (fun h => HM.out.mark (y := y) hmr hyr hyn h)
              have HYr := Lib.hid hyr
              have HUn := Lib.hid (unm_set hyM)
              have HSet := Lib.hid (own_marks_set HO.out y true)
              have hcase : s[y] = true ∨ s[y] = false ∧ M[y] = true ∨ s[y] = false ∧ M[y] = false := by rcases s[y] with _ | _ <;> rcases M[y] with _ | _ <;> simp
              clear es e2 y0 y1 y2 hy hyr HM
              rcases hcase with h1 | ⟨h1, h2⟩ | ⟨h1, h2⟩
              · have HM2 := Lib.hid (HSkip.out (fun _ z hz => .inl (by have : z = y := by have := HYr.out; omega
                                                                       subst this; rw [hS, h1])))
                rw [h1] at esr
                clear HSkip HMark HYr HUn HSet em fm hS hMk h1
                go_wp2
                go_roundw
                case rel => exact ⟨m + 1, M, Q, _, _, by go_num, by omega, rfl, HM2, hms, HQ, HO, hb⟩
                case measure => simp [intOf]; omega
              · have HM2 := Lib.hid (HSkip.out (fun _ z hz => .inr (by have : z = y := by have := HYr.out; omega
                                                                       subst this; rw [hMk, h2])))
                rw [h1] at esr
                rw [h2] at em
                clear HSkip HMark HYr HUn HSet hS hMk h1 h2
                go_wp2
                go_roundw
                case rel => exact ⟨m + 1, M, Q, _, _, by go_num, by omega, rfl, HM2, hms, HQ, HO, hb⟩
                case measure => simp [intOf]; omega
              · have HM2 := Lib.hid (HMark.out (by rw [hS, h1]))
                have hun := HUn.out (by rw [hMk, h2])
                rw [h1] at esr
                rw [h2] at em
                have hb5 := below_put (i := y) (v := .bool true) hb (Nat.le_refl _)
                obtain ⟨csM, hcsM⟩ := own_row_block HO.out
                have HQ5 := Lib.hid (HQ.out.other (w' := wr.setCell ⟨G, y, none⟩ (.bool true)) hcsM (by decide) (fun b hb => Below.heap_setCell _ _ _ _ hb))
                have hszw : G ≤ wr.heap.size := by have := hb.size; have := HGG.out; omega
                clear HSkip HMark HYr HUn hS hMk h1 h2 hcsM HQ
                go_wp2_with (at_builtin; refine app_queue _ rfl _ _ rfl G _ Q rfl (HQ5.out.keep ((Below.refl _ _).alloc (Nat.le_refl _) _)) _ y rfl (by rw [cell_of_row _ _ 0 _ _ _ (alloc_set _ _ _ _)]; rfl) (by omega) (by simp [World.setCell]; omega) ?_)
                intro v8 w8 row own8 hg8 hrow
                have HO8 := Lib.hid (own_row_other (HSet.out.alloc _) hg8 (fun k hk => (hrow k hk).2) (by decide))
                have hb8 : Below G w w8 := (hb5.alloc (by have := hb5.size; have := HGG.out; omega) _).grown hg8 (by simp [World.setCell]; omega) (fun k hk => (hrow k hk).1)
                obtain ⟨A8, c8, hv8⟩ := own8.form
                subst hv8
                have HQ8 := Lib.hid own8
                have hms8 : 2 * unm (M.set y true) + (Q ++ [(y : Int)]).length ≤ gk - 1 := by simp only [List.length_append, List.length_singleton]; omega
                clear own8 hg8 hrow HSet HQ5 hb5 hun
                go_wp2
                go_roundw
                case rel => exact ⟨m + 1, _, _, _, _, by go_num, by omega, rfl, HM2, hms8, HQ8, HO8, hb8⟩
                case measure => simp [intOf]; omega
            · have HI2 := Lib.hid (HM.out.over (by rw [HRow.out]; omega))
              go_wp2
              go_roundg (gk - 1)
              case measure => omega
              case rel => exact ⟨M, Q, _, _, rfl, HI2, hms, by omega, HQ, HO, hb⟩
        · have ho : o1 = o := by have := HO1.out; rw [if_pos (by omega)] at this; exact this
          obtain rfl : c1 = 1 := by omega
          obtain rfl : Q = [] := List.eq_nil_of_length_eq_zero (by omega)
          subst ho
          go_wp2
          go_loopw [8, 10] (fun q i wr => ∃ (m : Nat) (M : List Bool) (Q : List Int) (A1 : Option Addr) (c1 : Nat), i = .int .i64 m ∧ m ≤ r.length ∧ q = .slice A1 Q.length c1 ∧ Hid (BfsMid g s v M Q xn m) ∧ 2 * unm M + Q.length ≤ gk - 1 ∧ Hid (QueueOwn wr G (.slice A1 Q.length c1) Q) ∧ Hid (wr.ownsRow G 4 1 (.slice (some ⟨G, 0, none⟩) g.length g.length) g.length (M.map Bo)) ∧ Below G w wr) (fun _ i _ => r.length - (intOf i).toNat)
          case atStart => exact ⟨0, M, _, _, _, rfl, Nat.zero_le _, rfl, HM, by first | omega | (simp at hms ⊢; omega), HQ2, HO, hb⟩
          case round =>
            clear HM HQ2 HO hb hb0 hcap HO1 hms
            obtain ⟨m, M, Q, A1, c1, rfl, hm, rfl, HM, hms, HQ, HO, hb⟩ := hrel
            have e1 := HE1.out wr hb
            by_cases hmlt : m < r.length
            · obtain ⟨br, or_, rfl, e2⟩ := H1.out.iv hmlt
              have hbr : br < G := by have h : br < w.heap.size := World.block_lt_of_cell? _ _ e2; have := HGG.out; omega
              have e2r : wr.cell? ⟨br, or_ + m, none⟩ = some (.int .i64 r[m]) := (hb.cell (p := ⟨br, or_ + m, none⟩) hbr).trans e2
              obtain ⟨y0, y1, y2⟩ := HX.out r[m] (List.getElem_mem hmlt)
              obtain ⟨y, hy⟩ := Int.eq_ofNat_of_zero_le y0
              have hmr : m < (rowG g xn).length := by rw [HRow.out]; exact hmlt
              have hyr : (rowG g xn)[m] = (y : Int) := by
                have h : (rowG g xn)[m]? = some r[m] := by rw [HRow.out]; exact List.getElem?_eq_getElem hmlt
                rw [List.getElem?_eq_getElem hmr] at h
                injection h with h
                rw [h]; exact hy
              rw [hy] at e2r y1
              have hyn : y < g.length := by omega
              have hys : y < s.length := by have := HSL.out; omega
              have hyM : y < M.length := by rw [HM.out.len]; exact hyn
              obtain ⟨bs2, os2, hBeq, es⟩ := HS.out.bo hys
              injection hBeq with hBeq
              injection hBeq with hB1 hB2
              subst hB1 hB2
              have esr : wr.cell? ⟨bs, os + y, none⟩ = some (.bool s[y]) := (hb.cell (p := ⟨bs, os + y, none⟩) hbs).trans es
              obtain ⟨em, fm⟩ := own_marks HO.out y hyM
              have hS := atB_at hys
              have hMk := atB_at hyM
              have HSkip := Lib.hid (fun h => HM.out.skip (m := m) h)
              have HMark := Lib.hid (fun h => HM.out.mark (y := y) hmr hyr hyn h)
              have HYr := Lib.hid hyr
              have HUn := Lib.hid (unm_set hyM)
              have HSet := Lib.hid (own_marks_set HO.out y true)
              have hcase : s[y] = true ∨ s[y] = false ∧ M[y] = true ∨ s[y] = false ∧ M[y] = false := by rcases s[y] with _ | _ <;> rcases M[y] with _ | _ <;> simp
              clear es e2 y0 y1 y2 hy hyr HM
              rcases hcase with h1 | ⟨h1, h2⟩ | ⟨h1, h2⟩
              · have HM2 := Lib.hid (HSkip.out (fun _ z hz => .inl (by have : z = y := by have := HYr.out; omega
                                                                       subst this; rw [hS, h1])))
                rw [h1] at esr
                clear HSkip HMark HYr HUn HSet em fm hS hMk h1
                go_wp2
                go_roundw
                case rel => exact ⟨m + 1, M, Q, _, _, by go_num, by omega, rfl, HM2, hms, HQ, HO, hb⟩
                case measure => simp [intOf]; omega
              · have HM2 := Lib.hid (HSkip.out (fun _ z hz => .inr (by have : z = y := by have := HYr.out; omega
                                                                       subst this; rw [hMk, h2])))
                rw [h1] at esr
                rw [h2] at em
                clear HSkip HMark HYr HUn HSet hS hMk h1 h2
                go_wp2
                go_roundw
                case rel => exact ⟨m + 1, M, Q, _, _, by go_num, by omega, rfl, HM2, hms, HQ, HO, hb⟩
                case measure => simp [intOf]; omega
              · have HM2 := Lib.hid (HMark.out (by rw [hS, h1]))
                have hun := HUn.out (by rw [hMk, h2])
                rw [h1] at esr
                rw [h2] at em
                have hb5 := below_put (i := y) (v := .bool true) hb (Nat.le_refl _)
                obtain ⟨csM, hcsM⟩ := own_row_block HO.out
                have HQ5 := Lib.hid (HQ.out.other (w' := wr.setCell ⟨G, y, none⟩ (.bool true)) hcsM (by decide) (fun b hb => Below.heap_setCell _ _ _ _ hb))
                have hszw : G ≤ wr.heap.size := by have := hb.size; have := HGG.out; omega
                clear HSkip HMark HYr HUn hS hMk h1 h2 hcsM HQ
                go_wp2_with (at_builtin; refine app_queue _ rfl _ _ rfl G _ Q rfl (HQ5.out.keep ((Below.refl _ _).alloc (Nat.le_refl _) _)) _ y rfl (by rw [cell_of_row _ _ 0 _ _ _ (alloc_set _ _ _ _)]; rfl) (by omega) (by simp [World.setCell]; omega) ?_)
                intro v8 w8 row own8 hg8 hrow
                have HO8 := Lib.hid (own_row_other (HSet.out.alloc _) hg8 (fun k hk => (hrow k hk).2) (by decide))
                have hb8 : Below G w w8 := (hb5.alloc (by have := hb5.size; have := HGG.out; omega) _).grown hg8 (by simp [World.setCell]; omega) (fun k hk => (hrow k hk).1)
                obtain ⟨A8, c8, hv8⟩ := own8.form
                subst hv8
                have HQ8 := Lib.hid own8
                have hms8 : 2 * unm (M.set y true) + (Q ++ [(y : Int)]).length ≤ gk - 1 := by simp only [List.length_append, List.length_singleton]; omega
                clear own8 hg8 hrow HSet HQ5 hb5 hun
                go_wp2
                go_roundw
                case rel => exact ⟨m + 1, _, _, _, _, by go_num, by omega, rfl, HM2, hms8, HQ8, HO8, hb8⟩
                case measure => simp [intOf]; omega
            · have HI2 := Lib.hid (HM.out.over (by rw [HRow.out]; omega))
              go_wp2
              go_roundg (gk - 1)
              case measure => omega
              case rel => exact ⟨M, Q, _, _, rfl, HI2, hms, by omega, HQ, HO, hb⟩
  · rw [hsv] at hat hsc1
    have HR : Hid (reachL g s v = List.replicate g.length false) := Lib.hid (reachL_shut hat)
    go_wp2
    go_ret
    exact ⟨_, rfl, by rw [HR.out, ← HGG.out]; exact HO1.out, by rw [← HGG.out]; exact hb1⟩
end Go.Proofs.Ytcljmgchghjncaa
