/- Contract of the reference's Quotient of layer 5. -/
import Derived.Test.YtcljmgchghjncaaCpOrder
import Derived.Test.YtcljmgchghjncaaRcRows
namespace Go.Proofs.Ytcljmgchghjncaa
open Go Go.RowKit Fl

open Classical in
noncomputable def quoL (g : GraphD) (s : List Bool) : GraphD := if chkG g s.length = 0 then quotL g s else []
/-- z comes to row a by the edges of the vertices before v, and the first m of v's. -/
def qMem (g : GraphD) (s : List Bool) (v m a : Nat) (z : Int) : Prop := ∃ (u j : Nat) (x : Nat) (h : j < (rowG g u).length), (u < v ∨ (u = v ∧ j < m)) ∧ (rowG g u)[j] = (x : Int) ∧ nameOf g s u = a ∧ nameOf g s x = z ∧ 0 ≤ z ∧ z ≠ a
open Classical in
noncomputable def qF (g : GraphD) (s : List Bool) (v m a : Nat) : List Int := ((List.range g.length).filter (fun (b : Nat) => decide (qMem g s v m a b))).map (fun (b : Nat) => (b : Int))
theorem qF_mem {g : GraphD} {s : List Bool} {v m a : Nat} {z : Int} : z ∈ qF g s v m a ↔ qMem g s v m a z := by
  classical
  unfold qF
  rw [List.mem_map]
  constructor
  · rintro ⟨b, hb, rfl⟩
    have := (List.mem_filter.1 hb).2
    simpa using this
  · intro h
    have h0 := h
    obtain ⟨u, j, x, hj, _, _, _, hx, hz, _⟩ := h
    obtain ⟨b, rfl⟩ := Int.eq_ofNat_of_zero_le hz
    exact ⟨b, List.mem_filter.2 ⟨List.mem_range.2 (name_name hx).2.1, by simpa using h0⟩, rfl⟩
theorem qF_sorted (g : GraphD) (s : List Bool) (v m a : Nat) : (qF g s v m a).Pairwise (· < ·) := by
  unfold qF
  rw [List.pairwise_map]
  refine List.Pairwise.imp (fun h => ?_) (List.Pairwise.filter _ (List.pairwise_lt_range))
  omega
theorem qF_short (g : GraphD) (s : List Bool) (v m a : Nat) : (qF g s v m a).length ≤ g.length := by
  unfold qF
  rw [List.length_map]
  exact Nat.le_trans (List.length_filter_le _ _) (by simp)
theorem qF_ext {g : GraphD} {s : List Bool} {v m v' m' a : Nat} (h : ∀ z, qMem g s v m a z ↔ qMem g s v' m' a z) : qF g s v m a = qF g s v' m' a :=
  sorted_ext (qF_sorted _ _ _ _ _) (qF_sorted _ _ _ _ _) fun z => by rw [qF_mem, qF_mem]; exact h z
theorem qF_start (g : GraphD) (s : List Bool) : rowsF g.length (qF g s 0 0) = List.replicate g.length [] := by
  rw [← rowsF_nil]
  refine rowsF_congr fun i _ => ?_
  refine List.eq_nil_iff_forall_not_mem.2 fun z hz => ?_
  obtain ⟨u, j, x, hj, h, _⟩ := qF_mem.1 hz
  omega
theorem qF_next {g : GraphD} {s : List Bool} {v m : Nat} (hm : (rowG g v).length ≤ m) : rowsF g.length (qF g s v m) = rowsF g.length (qF g s (v + 1) 0) := rowsF_congr fun i _ => qF_ext fun z => by
  constructor
  · rintro ⟨u, j, x, hj, h, h2⟩
    exact ⟨u, j, x, hj, by rcases h with h | ⟨rfl, _⟩ <;> omega, h2⟩
  · rintro ⟨u, j, x, hj, h, h2⟩
    refine ⟨u, j, x, hj, ?_, h2⟩
    rcases h with h | ⟨_, h⟩
    · rcases Nat.lt_succ_iff_lt_or_eq.1 h with h | rfl
      · exact .inl h
      · exact .inr ⟨rfl, by omega⟩
    · omega
theorem qF_end (g : GraphD) (s : List Bool) : rowsF g.length (qF g s g.length 0) = quotL g s := by
  unfold quotL rowsF
  refine List.map_congr_left fun a _ => ?_
  refine sorted_ext (qF_sorted _ _ _ _ _) (quotRow_sorted _ _ _) fun z => ?_
  rw [qF_mem, quotRow_mem]
  constructor
  · rintro ⟨u, j, x, hj, _, h1, h2⟩
    exact ⟨u, x, by unfold EdgeG; rw [← h1]; exact List.getElem_mem hj, h2⟩
  · rintro ⟨u, x, he, h2⟩
    unfold EdgeG at he
    obtain ⟨j, hj, e⟩ := List.mem_iff_getElem.1 he
    refine ⟨u, j, x, hj, .inl ?_, e, h2⟩
    rcases Nat.lt_or_ge u g.length with h | h
    · exact h
    · rw [rowG_out h] at hj; simp at hj
theorem qMem_succ {g : GraphD} {s : List Bool} {v m y a : Nat} {z : Int} (hm : m < (rowG g v).length) (hy : (rowG g v)[m] = (y : Int)) : qMem g s v (m + 1) a z ↔ qMem g s v m a z ∨ (nameOf g s v = a ∧ nameOf g s y = z ∧ 0 ≤ z ∧ z ≠ a) := by
  constructor
  · rintro ⟨u, j, x, hj, h, h1, h2⟩
    rcases h with h | ⟨rfl, h⟩
    · exact .inl ⟨u, j, x, hj, .inl h, h1, h2⟩
    · rcases Nat.lt_succ_iff_lt_or_eq.1 h with h | rfl
      · exact .inl ⟨u, j, x, hj, .inr ⟨rfl, h⟩, h1, h2⟩
      · right
        have : x = y := by omega
        subst this
        exact h2
  · rintro (⟨u, j, x, hj, h, h2⟩ | h)
    · exact ⟨u, j, x, hj, by omega, h2⟩
    · exact ⟨v, m, y, hm, .inr ⟨rfl, by omega⟩, hy, h⟩
/-- An edge that adds nothing. -/
theorem qF_skip {g : GraphD} {s : List Bool} {v m y : Nat} (hm : m < (rowG g v).length) (hy : (rowG g v)[m] = (y : Int)) (hn : ∀ a : Nat, nameOf g s v = a → 0 ≤ nameOf g s y → nameOf g s y ≠ a → nameOf g s y ∈ qF g s v m a) : rowsF g.length (qF g s v (m + 1)) = rowsF g.length (qF g s v m) := rowsF_congr fun a _ => qF_ext fun z => by
  rw [qMem_succ hm hy]
  constructor
  · rintro (h | ⟨h1, rfl, h3, h4⟩)
    · exact h
    · exact qF_mem.1 (hn a h1 h3 h4)
  · exact .inl
/-- An edge that adds a name. -/
theorem qF_put {g : GraphD} {s : List Bool} {v m y a : Nat} {z : Int} (hm : m < (rowG g v).length) (hy : (rowG g v)[m] = (y : Int)) (ha : nameOf g s v = a) (hz : nameOf g s y = z) (h0 : 0 ≤ z) (hne : z ≠ a) (hno : z ∉ qF g s v m a) : (rowsF g.length (qF g s v m)).set a (insL (qF g s v m a) z) = rowsF g.length (qF g s v (m + 1)) := by
  refine rowsF_set ?_ fun i hi => qF_ext fun x => ?_
  · refine sorted_ext (qF_sorted _ _ _ _ _) (insL_sorted (qF_sorted _ _ _ _ _) hno) fun x => ?_
    rw [qF_mem, qMem_succ hm hy, insL_mem, qF_mem]
    constructor
    · rintro (h | ⟨_, h1, _⟩)
      · exact .inr h
      · exact .inl (by rw [← h1, hz])
    · rintro (rfl | h)
      · exact .inr ⟨ha, hz, h0, hne⟩
      · exact .inl h
  · rw [qMem_succ hm hy]
    constructor
    · rintro (h | ⟨h1, _⟩)
      · exact h
      · omega
    · exact .inl
theorem own_lo {w : World} {base base' n : Nat} {e : TypeId} {v : Value} {xs : List Value} (h : w.ownsRow base e 1 v n xs) (hb : base' ≤ base) : w.ownsRow base' e 1 v n xs := by
  obtain ⟨h1, h2⟩ := h
  refine ⟨h1, ?_⟩
  rcases h2 with h2 | ⟨g, cap, cur, hv, hg, hr⟩
  · exact .inl h2
  · exact .inr ⟨g, cap, cur, hv, Nat.le_trans hb hg, hr⟩
theorem RowsOwn.putN {w : World} {base q cap k n : Nat} {g : GraphD} {u : Value} {r : List Int} (hn : g.length = n) (h : RowsOwn w base (.slice (some ⟨q, 0, none⟩) n cap) g) (hr : w.ownsRow base 3 1 u r.length (r.map Iv)) : RowsOwn (w.setCell ⟨q, k, none⟩ u) base (.slice (some ⟨q, 0, none⟩) n cap) (g.set k r) := by
  subst hn
  exact h.put hr rfl
theorem RowsOwn.low {w : World} {base base' : Nat} {v : Value} {g : GraphD} (h : RowsOwn w base v g) (hb : base' ≤ base) : RowsOwn w base' v g := by
  obtain ⟨vs, h1, h2, h3⟩ := h
  exact ⟨vs, h1, own_lo h2 hb, fun k u r hk hr => own_lo (h3 k u r hk hr) hb⟩
theorem rowsO_nil (w : World) (base : Nat) : RowsOwn w base (.slice none 0 0) [] := ⟨[], rfl, World.ownsRow_nil _ _ _ _, fun k u r h => by simp at h⟩
/-- What Quotient returns. -/
def RowsPost (w : World) (l : GraphD) (k : Int) (e : Ending) (w' : World) : Prop := ∃ u, e = .returned (.tuple #[u, .int .i64 k]) ∧ RowsOwn w' w.heap.size u l ∧ Below w.heap.size w w'
set_option maxRecDepth 100000 in
set_option maxHeartbeats 8000000 in
theorem refQuotient_c (A B : Option Addr) (c d : Nat) (g : GraphD) (s : List Bool) (w : World) (hh : RowsAt w A g) (hs : Holds w B (s.map Bo)) (hz : Sized g) :
    Calls Try.prog 15 #[.slice A g.length c, .slice B s.length d] w (RowsPost w (quoL g s) (chkG g s.length)) := by
  have CN := Lib.hid (refNames_c A B c d g s w hh hs hz)
  by_cases h0 : chkG g s.length = 0
  · have hv : validG g = true ∧ s.length = g.length := by
      rcases chkG_cases g s.length with h | h | h
      · exact h.2
      · omega
      · omega
    have HE : Hid (quoL g s = quotL g s) := Lib.hid (by unfold quoL; rw [if_pos h0])
    have HNm : Hid (nmL g s = namesL g s) := Lib.hid (by unfold nmL; rw [if_pos h0])
    rw [h0] at CN ⊢
    have hl24 := validG_len hv.1
    have HV := Lib.hid hv.1
    have HH := Lib.hid hh
    clear hh hs hz h0 hv
    go_enter Try.func15, Try.ntmps15
    go_wp2_with fail
    refine CN.out.mono ?_
    rintro e wN ⟨nu, rfl, hown, hbN⟩
    rw [HNm.out] at hown
    obtain ⟨An, cn, rfl, hn⟩ := own_is hown
    have HN := Lib.hid hn
    have HBN := Lib.hid hbN
    have HHN := Lib.hid (HH.out.keep hbN)
    have HNL := Lib.hid (namesL_length g s)
    clear CN hown hn hbN HH
    go_wp2_with (refine make_any _ rfl _ _ 22 24 (.slice none 0 0) 24 Try.underlying22 Try.infoRowG rfl (by decide) rfl .i64 .i64 _ _ g.length rfl rfl rfl rfl (by omega) ?_)
    intro w3 own3 hb3
    obtain ⟨G, hG⟩ : ∃ G, G = wN.heap.size := ⟨_, rfl⟩
    have HO3 : Hid (RowsOwn w3 G (.slice (some ⟨G, 0, none⟩) g.length g.length) (rowsF g.length (qF g s 0 0))) := Lib.hid (by rw [qF_start, hG]; exact rowsOwn_new own3)
    have HB3 : Hid (Below G wN w3) := Lib.hid (by rw [hG]; exact hb3)
    have hG1 : G ≤ wN.heap.size := by omega
    have hG2 : wN.heap.size ≤ G := by omega
    have HWG : Hid (w.heap.size ≤ G) := Lib.hid (by rw [hG]; exact HBN.out.size)
    have HNk : Hid (∀ W, Below G wN W → Holds W An ((namesL g s).map Iv)) := Lib.hid (fun W hW => HN.out.keep (by rw [← hG]; exact hW))
    have HHk : Hid (∀ W, Below G wN W → RowsAt W A g) := Lib.hid (fun W hW => HHN.out.keep (by rw [← hG]; exact hW))
    have HBw : Hid (∀ W, Below G wN W → Below w.heap.size w W) := Lib.hid (fun W hW => HBN.out.trans (hW.mono HWG.out))
    rw [← hG]
    clear own3 hb3 hG HN HHN
    go_wp2
    go_loopw [9] (fun i wr => ∃ v : Nat, i = .int .i64 v ∧ v ≤ g.length ∧ Hid (RowsOwn wr G (.slice (some ⟨G, 0, none⟩) g.length g.length) (rowsF g.length (qF g s v 0))) ∧ Hid (Below G wN wr)) (fun i _ => g.length - (intOf i).toNat)
    case atStart => exact ⟨0, rfl, Nat.zero_le _, HO3, HB3⟩
    case round =>
      clear HO3 HB3
      obtain ⟨v, rfl, hv, HO, HB⟩ := hrel
      by_cases hvt : v < g.length
      · have hrow := rowG_at hvt
        have hr24 := validG_short HV.out _ (List.getElem_mem hvt)
        have HX := Lib.hid (rowOk_row HV.out hvt)
        rw [hrow] at HX
        have HRow := Lib.hid hrow
        have HG : Hid (∀ W, Below G wN W → ∃ b o A1 c1, A = some ⟨b, o, none⟩ ∧ W.cell? ⟨b, o + v, none⟩ = some (.slice A1 g[v].length c1) ∧ Holds W A1 (g[v].map Iv)) := Lib.hid (fun W hW => (HHk.out W hW).one hvt)
        clear hrow
        generalize g[v] = r at *
        go_wp2
        go_loopw [10] (fun i wr => ∃ m : Nat, i = .int .i64 m ∧ m ≤ r.length ∧ Hid (RowsOwn wr G (.slice (some ⟨G, 0, none⟩) g.length g.length) (rowsF g.length (qF g s v m))) ∧ Hid (Below G wN wr)) (fun i _ => r.length - (intOf i).toNat)
        case atStart => exact ⟨0, rfl, Nat.zero_le _, HO, HB⟩
        case round =>
          clear HO HB
          obtain ⟨m, rfl, hm, HO, HB⟩ := hrel
          obtain ⟨bg, og, A1, c1, rfl, e1, h1⟩ := HG.out wr HB.out
          by_cases hmt : m < r.length
          · obtain ⟨br, or_, rfl, e2⟩ := h1.iv hmt
            obtain ⟨y0, y1, y2⟩ := HX.out r[m] (List.getElem_mem hmt)
            obtain ⟨y, hy⟩ := Int.eq_ofNat_of_zero_le y0
            have hmr : m < (rowG g v).length := by rw [HRow.out]; exact hmt
            have hyr : (rowG g v)[m] = (y : Int) := by
              have h : (rowG g v)[m]? = some r[m] := by rw [HRow.out]; exact List.getElem?_eq_getElem hmt
              rw [List.getElem?_eq_getElem hmr] at h
              injection h with h
              rw [h]; exact hy
            rw [hy] at e2 y1
            have hyn : y < g.length := by omega
            have HNr := HNk.out wr HB.out
            have hvl : v < (namesL g s).length := by rw [HNL.out]; exact hvt
            have hyl : y < (namesL g s).length := by rw [HNL.out]; exact hyn
            obtain ⟨bn, on, rfl, e3⟩ := HNr.iv hvl
            have e4 := ints_in HNr hyl
            rw [namesL_at] at e3 e4
            have HSkip := Lib.hid (fun h => qF_skip (s := s) hmr hyr h)
            have HPut := Lib.hid (fun (a : Nat) (z : Int) => qF_put (s := s) (a := a) (z := z) hmr hyr)
            have HNa := Lib.hid (name_le g s v)
            have hna1 := name_ge g s v
            have hnb1 := name_ge g s y
            have hna2 := name_le g s v
            have hnb2 := name_le g s y
            have HName := Lib.hid (fun (a : Nat) (h : nameOf g s v = a) => (name_name h).2.1)
            clear h1 y0 y2 hy hyr HNr
            obtain ⟨na, hna⟩ : ∃ na, Hid (na = nameOf g s v) := ⟨_, Lib.hid rfl⟩
            obtain ⟨nb, hnb⟩ : ∃ nb, Hid (nb = nameOf g s y) := ⟨_, Lib.hid rfl⟩
            rw [← hna.out] at e3 hna1 hna2 HSkip
            rw [← hnb.out] at e4 hnb1 hnb2 HSkip
            go_wp2_with fail
            go_quiet (fail)
            have HO2 := Lib.hid (HO.out.keep (below_drewN (Below.refl _ _) nq))
            have HB2 := Lib.hid (below_drewN HB.out nq)
            clear HO HB e1 e2 e3 e4
            generalize wr.drewN nq = w5 at *
            by_cases hskip : na < 0 ∨ 0 ≤ na ∧ nb < 0 ∨ 0 ≤ na ∧ 0 ≤ nb ∧ na = nb
            · have HO3 : Hid (RowsOwn w5 G (.slice (some ⟨G, 0, none⟩) g.length g.length) (rowsF g.length (qF g s v (m + 1)))) := Lib.hid (by
                rw [HSkip.out fun a h1 h2 h3 => ?_]
                · exact HO2.out
                · exfalso
                  omega)
              clear HSkip HPut HName HO2
              rcases hskip with h | ⟨h1, h2⟩ | ⟨h1, h2, rfl⟩
              · have hd1 : decide ((0 : Int) ≤ na) = false := by simp; omega
                clear h
                go_wp2
                go_roundw
                case rel => exact ⟨m + 1, by go_num, by omega, HO3, HB2⟩
                case measure => simp [intOf]; omega
              · have hd1 : decide ((0 : Int) ≤ na) = true := by simp; omega
                have hd2 : decide ((0 : Int) ≤ nb) = false := by simp; omega
                clear h1 h2
                go_wp2
                go_roundw
                case rel => exact ⟨m + 1, by go_num, by omega, HO3, HB2⟩
                case measure => simp [intOf]; omega
              · have hd1 : decide ((0 : Int) ≤ na) = true := by simp; omega
                clear h1 h2
                go_wp2
                go_roundw
                case rel => exact ⟨m + 1, by go_num, by omega, HO3, HB2⟩
                case measure => simp [intOf]; omega
            · have hd1 : decide ((0 : Int) ≤ na) = true := by simp; omega
              have hd2 : decide ((0 : Int) ≤ nb) = true := by simp; omega
              have hd3 : (na != nb) = true := by rw [bne_iff_ne]; omega
              obtain ⟨a, ha⟩ := Int.eq_ofNat_of_zero_le (show (0 : Int) ≤ na by omega)
              subst ha
              have hag : a < g.length := HName.out a hna.out.symm
              have hal : a < (rowsF g.length (qF g s v m)).length := by rw [rowsF_length]; exact hag
              obtain ⟨A5, c5, e5, f5, h5⟩ := HO2.out.cell hal
              have hlen : (rowsF g.length (qF g s v m))[a].length ≤ 24 := by rw [rowsF_at]; have := qF_short g s v m a; omega
              have CH := Lib.hid (has_c A5 c5 (rowsF g.length (qF g s v m))[a] nb w5 h5 (by omega))
              have CI := Lib.hid (insert_c A5 c5 (rowsF g.length (qF g s v m))[a] nb w5 h5 (by omega))
              have hat : (rowsF g.length (qF g s v m))[a] = qF g s v m a := rowsF_at hal
              rw [hat] at CH CI e5 hlen
              by_cases hin : nb ∈ qF g s v m a
              · have HO3 : Hid (RowsOwn w5 G (.slice (some ⟨G, 0, none⟩) g.length g.length) (rowsF g.length (qF g s v (m + 1)))) := Lib.hid (by
                  rw [HSkip.out fun a' h1 h2 h3 => ?_]
                  · exact HO2.out
                  · have : a' = a := by omega
                    subst this
                    exact hin)
                rw [decide_eq_true hin] at CH
                clear HSkip HPut HName HO2 hin h5 hat CI hskip
                generalize qF g s v m a = ra at *
                go_wp2_with fail
                refine CH.out.mono ?_
                rintro e w6 ⟨rfl, rfl⟩
                go_wp2
                go_roundw
                case rel => exact ⟨m + 1, by go_num, by omega, HO3, HB2⟩
                case measure => simp [intOf]; omega
              · have HP := Lib.hid (HPut.out a nb hna.out.symm hnb.out.symm (by omega) (by omega) hin)
                rw [decide_eq_false hin] at CH
                clear HSkip HPut HName hin h5 hat hskip
                generalize qF g s v m a = ra at *
                have hsz5 := HB2.out.size
                go_wp2_with fail
                refine CH.out.mono ?_
                rintro e w6 ⟨rfl, rfl⟩
                go_wp2_with fail
                refine CI.out.mono ?_
                rintro e w6 ⟨u6, rfl, own6, hb6⟩
                obtain ⟨A6, c6, rfl, _⟩ := own_is own6
                have hGw : G < w5.heap.size := World.block_lt_of_cell? _ _ e5
                obtain ⟨e6, f6⟩ : w6.cell? ⟨G, a, none⟩ = some (.slice A5 ra.length c5) ∧ w6.frozen? ⟨G, a, none⟩ = false :=
                  ⟨(hb6.cell (p := ⟨G, a, none⟩) hGw).trans e5, (World.frozen?_of_block (w := w5) (w' := w6) (a := ⟨G, a, none⟩) (hb6.block G hGw)).trans f5⟩
                have HO6 : Hid (RowsOwn (w6.setCell ⟨G, a, none⟩ (.slice A6 (insL ra nb).length c6)) G (.slice (some ⟨G, 0, none⟩) g.length g.length) (rowsF g.length (qF g s v (m + 1)))) := Lib.hid (by
                  rw [← HP.out]
                  exact (HO2.out.keep hb6).putN (rowsF_length _ _) (own_lo own6 (by omega)))
                have HB6 := Lib.hid (below_put (i := a) (v := .slice A6 (insL ra nb).length c6) (HB2.out.trans (hb6.mono (by omega))) (Nat.le_refl G))
                clear own6 hb6 HO2 HB2 CH CI e5 f5 HP
                go_wp2
                go_roundw
                case rel => exact ⟨m + 1, by go_num, by omega, HO6, HB6⟩
                case measure => simp [intOf]; omega
          · have HO2 : Hid (RowsOwn wr G (.slice (some ⟨G, 0, none⟩) g.length g.length) (rowsF g.length (qF g s (v + 1) 0))) := Lib.hid (by rw [← qF_next (m := m) (by rw [HRow.out]; omega)]; exact HO.out)
            clear HO h1
            go_wp2
            go_roundw
            case rel => exact ⟨v + 1, by go_num, by omega, HO2, HB⟩
            case measure => simp [intOf]; omega
      · obtain rfl : v = g.length := by omega
        have HO2 : Hid (RowsOwn wr w.heap.size (.slice (some ⟨G, 0, none⟩) g.length g.length) (quotL g s)) := Lib.hid (by rw [← qF_end]; exact HO.out.low HWG.out)
        have HBx := Lib.hid (HBw.out wr HB.out)
        clear HO HB
        go_wp2
        go_ret2
        exact ⟨_, rfl, by rw [HE.out]; exact HO2.out, HBx.out⟩
  · have HE : Hid (quoL g s = []) := Lib.hid (by unfold quoL; rw [if_neg h0])
    have hcase : chkG g s.length = 19 ∨ chkG g s.length = 20 := by
      rcases chkG_cases g s.length with h | h | h
      · exact absurd h.1 h0
      · exact .inl h
      · exact .inr h
    clear hh hs hz h0
    rcases hcase with h | h
    all_goals
      rw [h] at CN ⊢
      clear h
      go_enter Try.func15, Try.ntmps15
      go_wp2_with fail
      refine CN.out.mono ?_
      rintro e w1 ⟨nu, rfl, _, hb⟩
      have HB := Lib.hid hb
      clear hb
      go_wp2
      go_ret2
      exact ⟨_, rfl, by rw [HE.out]; exact rowsO_nil _ _, HB.out⟩
end Go.Proofs.Ytcljmgchghjncaa
