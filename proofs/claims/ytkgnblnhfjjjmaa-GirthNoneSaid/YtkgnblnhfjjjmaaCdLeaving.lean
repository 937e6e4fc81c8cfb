/- Contract of components' leavingOrder. -/
import Derived.Test.YtkgnblnhfjjjmaaCdSearch
import Derived.Test.YtkgnblnhfjjjmaaCdSeen
namespace Go.Proofs.Ytkgnblnhfjjjmaa
open Go Go.RowKit Fl

theorem IRow.get {w : World} {base q n cap : Nat} {l : List Nat} (h : IRow w base (.slice (some ⟨q, 0, none⟩) n cap) l) {j : Nat} {u : Value} (hu : (nI l)[j]? = some u) : w.cell? ⟨q, j, none⟩ = some u := by
  have hn : n = l.length := by
    obtain ⟨A, c, h1⟩ := h.is
    injection h1
  subst hn
  exact (own_get h hu).1
theorem IRow.form {w : World} {base : Nat} {v : Value} {l : List Nat} (h : IRow w base v l) (hl : 0 < l.length) : ∃ q cap, v = .slice (some ⟨q, 0, none⟩) l.length cap := by
  obtain ⟨g, cap, h1, _, _⟩ := own_at h hl
  exact ⟨g, cap, h1⟩
theorem IRow.base {w : World} {b1 b2 : Nat} {v : Value} {l : List Nat} (h : IRow w b1 v l) (hb : b2 ≤ b1) : IRow w b2 v l := ownsRow_base h hb
section
variable {ops : Array Oper} {rest : List Oper} {o : Oper} {a : Act} {Q : Exit → Act → World → Prop}
theorem app_verts (w : World) (hgd : o.guard = none) (s x : Operand) (ho : o.op = .call { callee := .builtin .append, args := #[s, x], argTypes := #[24, 24] }) (base : Nat) (v : Value) (l : List Nat) (hs : a.eval s = v) (hown : IRow w base v l)
    (q cap : Nat) (l2 : List Nat) (hx : a.eval x = .slice (some ⟨q, 0, none⟩) l2.length cap) (hc : ∀ j u, (nI l2)[j]? = some u → w.cell? ⟨q, j, none⟩ = some u) (hn : l.length + l2.length ≤ 1000000000) (hbase : base ≤ w.heap.size)
    (h : ∀ v' w', IRow w' base v' (l ++ l2) → w.grownBy w' v.ownBlock → wpList Try.prog ops Q rest (a.put o.dst v') w') : wpList Try.prog ops Q (o :: rest) a w := by
  obtain ⟨i0, hi, hz0, hz1, hz2⟩ := info_parts Try.infoIntG
  refine wpList_append_own w hgd s x 24 ho base 3 i0 (.int .i64 0) 1 8 Try.underlying24 hi hz0 hz1 hz2 rfl (by omega) v l.length (nI l) hs hown ⟨q, 0, none⟩ l2.length cap (nI l2) hx (by simp [nI]) (fun j u hu => ?_) (fun u hu => ?_) (by unfold maxLen; omega) (by omega) hbase (fun v' w' g1 g2 _ => h v' w' ?_ g2)
  · have e := hc j u hu
    rw [show (⟨q, 0, none⟩ : Addr) = ⟨q, 0, none⟩ from rfl, Addr.add_mid, Nat.zero_add]
    exact e
  · simp only [nI, List.mem_map] at hu
    obtain ⟨y, _, rfl⟩ := hu
    rfl
  · unfold IRow
    rw [List.length_append, show nI (l ++ l2) = nI l ++ nI l2 by simp [nI]]
    exact g1
end
set_option maxRecDepth 100000 in
set_option maxHeartbeats 8000000 in
theorem leaving_c (A B : Option Addr) (c d : Nat) (g : GraphD) (s : List Bool) (w : World) (hh : RowsAt w A g) (hs : Holds w B (s.map Bo)) (hg : validG g = true) (hsl : s.length = g.length) :
    Calls Try.prog 42 #[.slice A g.length c, .slice B s.length d] w fun e w' => ∃ (u : Value) (L : List Nat), e = .returned u ∧ IRow w' w.heap.size u L ∧ Below w.heap.size w w' ∧ Dfs g s L [] ∧ ∀ x, x < g.length → atB s x = false → x ∈ L := by
  have hl24 := validG_len hg
  have CS := Lib.hid (seenFirst_c B d s w hs (by omega))
  have HH := Lib.hid hh
  have HG := Lib.hid hg
  have hpl := padM_length (M := s) (by omega)
  have HSL := Lib.hid hsl
  clear hh hs hsl
  go_enter Try.func42, Try.ntmps42
  go_wp2_with fail
  refine CS.out.mono ?_
  rintro e w2 ⟨rfl, hb2⟩
  have HZ := Lib.hid (zeros_c w2)
  have HPl : ((padM s).map Bo).length = 24 := by simpa using hpl
  have HZ2 := Lib.hid (HZ.out.row (l' := (padM s).map Bo))
  have HB2 := Lib.hid (below_row (G := w2.heap.size) (hb2.alloc hb2.size (.cells Z24b 62)) hb2.size ((padM s).map Bo).toArray)
  have hGs := hb2.size
  have hsz3 : w2.heap.size + 1 ≤ ((w2.alloc (.cells Z24b 62)).setRow w2.heap.size ((padM s).map Bo).toArray).heap.size := by simp [World.setRow]
  clear CS hb2
  go_wp2_with (first | refine store_c rfl _ _ (by rfl) _ (by rfl) (by rfl) HZ.out (by simp) HPl (bools_one _) ?_)
  have HMk : Hid (∀ x, atB (padM s) x = true ↔ atB s x = true ∨ x ∈ ([] : List Nat)) := Lib.hid (fun x => by rw [atB_pad]; simp)
  have HD := Lib.hid (Dfs.nil g s)
  have HL := Lib.hid (IRow.nil ((w2.alloc (.cells Z24b 62)).setRow w2.heap.size ((padM s).map Bo).toArray) (w2.heap.size + 1))
  clear HZ
  generalize (w2.alloc (.cells Z24b 62)).setRow w2.heap.size ((padM s).map Bo).toArray = w3 at *
  generalize padM s = M0 at *
  generalize w2.heap.size = G at *
  go_wp2
  go_loopw [5, 12] (fun ov iv wr => ∃ (v : Nat) (L : List Nat) (M : List Bool), iv = .int .i64 v ∧ v ≤ g.length ∧ M.length = 24 ∧ Hid (IRow wr (G + 1) ov L) ∧ Hid (Dfs g s L []) ∧ Hid (ArrC wr G 62 (M.map Bo)) ∧ Hid (∀ x, atB M x = true ↔ atB s x = true ∨ x ∈ L) ∧ Hid (∀ x, x < v → atB M x = true) ∧ Hid (Below w.heap.size w wr) ∧ G + 1 ≤ wr.heap.size) (fun _ iv _ => g.length - (intOf iv).toNat)
  case atStart => exact ⟨0, [], M0, rfl, Nat.zero_le _, hpl, HL, HD, HZ2, HMk, Lib.hid (fun x hx => by omega), HB2, hsz3⟩
  case round =>
    clear HL HD HZ2 HMk HB2 hsz3 hpl HPl
    obtain ⟨v, L, M, rfl, hv, hml, HL, HD, HM, HMk, HA, HB, hsz⟩ := hrel
    by_cases hlt : v < g.length
    · have hvM : v < M.length := by omega
      obtain ⟨eS, _⟩ := HM.out.cell (k := v) (u := .bool M[v]) (by rw [List.getElem?_map, List.getElem?_eq_getElem hvM]; rfl)
      have hMv := atB_at hvM
      rcases hb : M[v] with _ | _
      · rw [hb] at eS hMv
        have CR := Lib.hid (search_c A c G g s L v M wr (HH.out.keep HB.out) HG.out HD.out hlt HM.out hml HMk.out hMv)
        have hLl : L.length ≤ 24 := by
          have hs2 : L.length ≤ (List.range g.length).length := by
            refine List.Nodup.length_le_of_subset (by simpa using HD.out.nodup) fun x hx => ?_
            exact List.mem_range.2 (HD.out.fresh x (by simpa using hx)).1
          simp at hs2
          omega
        clear hb hMv HM HD
        go_wp2_with fail
        refine CR.out.mono ?_
        rintro e w5 ⟨u, l, M5, rfl, hu, hM5, hg5, hend⟩
        have hlp : 0 < l.length := List.length_pos_of_mem hend.has
        obtain ⟨q, cap, rfl⟩ := hu.form hlp
        have hll : l.length ≤ 24 := by
          have hs2 : (L ++ l).length ≤ (List.range g.length).length := by
            refine List.Nodup.length_le_of_subset (by simpa using hend.dfs.nodup) fun x hx => ?_
            exact List.mem_range.2 (hend.dfs.fresh x (by simpa using hx)).1
          simp at hs2
          omega
        have HL5 := Lib.hid (HL.out.same (w' := w5) (fun k hk => hg5.block k (HL.out.lt hk).1 (by have := (HL.out.lt hk).2; intro e; injection e with e; omega)))
        have HU := Lib.hid (fun j u (hj : (nI l)[j]? = some u) => hu.get hj)
        have HE := Lib.hid hend
        have hG5 : G + 1 ≤ w5.heap.size := Nat.le_trans hsz hg5.size
        have HB5 := Lib.hid (HB.out.grown hg5 HB.out.size (fun k hk => by injection hk with hk; omega))
        have HM5 := Lib.hid hM5
        clear hu hM5 hg5 hend CR HL HB hsz
        go_wp2_with (at_builtin; refine app_verts _ rfl _ _ (by rfl) (G + 1) _ L (by rfl) HL5.out q cap l (by rfl) HU.out (by omega) hG5 ?_)
        intro ov7 w7 hown hgr
        have hne : ∀ k, some k = ov7.ownBlock → True := fun _ _ => trivial
        have HO7 := Lib.hid hown
        have HM7 := Lib.hid (HM5.out.grown hgr (by intro e; have := (HL5.out.lt e.symm).2; omega))
        have HB7 := Lib.hid (HB5.out.grown hgr HB5.out.size (fun k hk => by have := (HL5.out.lt hk).2; omega))
        have hG7 : G + 1 ≤ w7.heap.size := Nat.le_trans hG5 hgr.size
        have HMk7 : Hid (∀ x, atB M5 x = true ↔ atB s x = true ∨ x ∈ L ++ l) := Lib.hid (fun x => by
          rw [HE.out.mks, HMk.out, List.mem_append]
          constructor
          · rintro ((h | h) | h)
            · exact .inl h
            · exact .inr (.inl h)
            · exact .inr (.inr h)
          · rintro (h | h | h)
            · exact .inl (.inl h)
            · exact .inl (.inr h)
            · exact .inr h)
        have HA7 : Hid (∀ x, x < v + 1 → atB M5 x = true) := Lib.hid (fun x hx => by
          rw [HE.out.mks]
          rcases Nat.lt_succ_iff_lt_or_eq.1 hx with h | rfl
          · exact .inl (HA.out x h)
          · exact .inr HE.out.has)
        clear hown hgr HL5 HM5 HB5 HU hne
        go_wp2
        go_roundw
        case rel => exact ⟨v + 1, L ++ l, M5, by go_num, by omega, HE.out.ml, HO7, Lib.hid HE.out.dfs, HM7, HMk7, HA7, HB7, hG7⟩
        case measure => simp [intOf]; omega
      · rw [hb] at eS hMv
        have HA2 : Hid (∀ x, x < v + 1 → atB M x = true) := Lib.hid (fun x hx => by
          rcases Nat.lt_succ_iff_lt_or_eq.1 hx with h | rfl
          · exact HA.out x h
          · exact hMv)
        clear hb hMv HA
        go_wp2
        go_roundw
        case rel => exact ⟨v + 1, L, M, by go_num, by omega, hml, HL, HD, HM, HMk, HA2, HB, hsz⟩
        case measure => simp [intOf]; omega
    · obtain rfl : v = g.length := by omega
      go_wp2
      refine bodyPost_ret (results_tmp rfl _ _ _) rfl ?_
      refine ⟨_, L, rfl, by simpa using HL.out.base (by omega), HB.out, HD.out, fun x hx hs => ?_⟩
      rcases (HMk.out x).1 (HA.out x hx) with h | h
      · rw [hs] at h; cases h
      · exact h
end Go.Proofs.Ytkgnblnhfjjjmaa
