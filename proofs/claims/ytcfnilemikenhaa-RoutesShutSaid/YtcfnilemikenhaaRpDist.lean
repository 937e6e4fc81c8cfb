/- Contracts of routes' leastAt, distancesFrom and hopsTo. -/
import Derived.Test.YtcfnilemikenhaaRpPure
import Derived.Test.YtcfnilemikenhaaCdSeen
import Derived.Test.YtcfnilemikenhaaGrHops
import Derived.Test.YtcfnilemikenhaaRtBase
namespace Go.Proofs.Ytcfnilemikenhaa
open Go Go.RowKit Fl

set_option maxRecDepth 100000 in
set_option maxHeartbeats 4000000 in
theorem leastAt_c (A B : Option Addr) (c d : Nat) (l dist : List Int) (z : Int) (w : World) (hl : Holds w A (l.map Iv)) (hd : Holds w B (dist.map Iv)) (hx : ∀ x ∈ l, 0 ≤ x ∧ x < dist.length) (hll : l.length ≤ 24) :
    Calls Try.prog 43 #[.slice A l.length c, .slice B dist.length d, .int .i64 z] w fun e w' => e = .returned (.int .i64 (leastAtF l dist z)) ∧ w = w' := by
  have HL := Lib.hid hl
  have HD := Lib.hid hd
  have HX := Lib.hid hx
  have HS : Hid (leastAtF (l.drop 0) dist z = leastAtF l dist z) := Lib.hid (by rw [List.drop_zero])
  have HT : Hid (∀ k, (hk : k < l.length) → leastAtF (l.drop k) dist z = if atI dist l[k] = z then l[k] else leastAtF (l.drop (k + 1)) dist z) := Lib.hid (fun k hk => leastAt_step hk)
  have HE : Hid (leastAtF (l.drop l.length) dist z = -1) := Lib.hid (leastAt_end (Nat.le_refl _))
  clear hl hd hx
  go_enter Try.func43, Try.ntmps43
  go_wp2
  go_loopw [11] (fun v wr => ∃ (k : Nat), v = .int .i64 k ∧ k ≤ l.length ∧ Hid (leastAtF (l.drop k) dist z = leastAtF l dist z) ∧ w = wr) (fun v _ => l.length - (intOf v).toNat)
  case atStart => exact ⟨0, rfl, Nat.zero_le _, HS, rfl⟩
  case round =>
    clear HS
    obtain ⟨k, rfl, hk, HS, rfl⟩ := hrel
    by_cases hlt : k < l.length
    · obtain ⟨bl, ol, rfl, el⟩ := HL.out.iv hlt
      obtain ⟨x0, x1⟩ := HX.out l[k] (List.getElem_mem hlt)
      have HTk := Lib.hid (HT.out k hlt)
      generalize l[k] = x at *
      obtain ⟨y, rfl⟩ := Int.eq_ofNat_of_zero_le x0
      have hyd : y < dist.length := by omega
      obtain ⟨bd, od, rfl, ed⟩ := HD.out.iv hyd
      have hat2 : atI dist (y : Int) = dist[y] := by unfold atI; rw [Int.toNat_natCast, List.getD_eq_getElem?_getD, List.getElem?_eq_getElem hyd]; rfl
      rw [hat2] at HTk
      clear x0 x1 hat2
      by_cases heq : dist[y] = z
      · have hbq : (dist[y] == z) = true := by simpa using heq
        have HF : Hid (leastAtF l dist z = y) := Lib.hid (by rw [← HS.out, HTk.out, if_pos heq])
        clear heq HTk HT HS HE
        generalize dist[y] = dy at *
        go_wp2
        go_ret
        exact ⟨by rw [HF.out]; rfl, rfl⟩
      · have hbq : (dist[y] == z) = false := by simpa using heq
        have HF : Hid (leastAtF (l.drop (k + 1)) dist z = leastAtF l dist z) := Lib.hid (by rw [← HS.out, HTk.out, if_neg heq])
        clear heq HTk
        generalize dist[y] = dy at *
        go_wp2
        go_roundw
        case rel => exact ⟨k + 1, by go_num, by omega, HF, trivial⟩
        case measure => simp [intOf]; omega
    · obtain rfl : k = l.length := by omega
      have HF : Hid (leastAtF l dist z = -1) := Lib.hid (by rw [← HS.out, HE.out])
      clear HT
      go_wp2
      go_ret
      exact ⟨by rw [HF.out]; rfl, rfl⟩
theorem new_cellR (W : World) (u : Value) (t : TypeId) : (W.alloc (.cells #[u] t)).cell? ⟨W.heap.size, 0, none⟩ = some u := by
  rw [cell_of_row _ _ 0 _ _ _ (heap_alloc_new W _)]
  rfl
theorem distV_hit {g : GraphD} {d : Int} {out l : List Int} {v : Nat} {z : Int} (hl : rowG g v = l) (h0 : ∀ x ∈ l, 0 ≤ x) (h1 : out.getD v (-1) < 0) (hz : leastAtF l out z = leastAtF l out (d - 1)) (h2 : 0 ≤ leastAtF l out z) : distV g [] d out v = out.set v d := by
  have hn : atB [] v = false := rfl
  unfold distV
  rw [hn, Bool.false_or, decide_eq_false (by omega), hl, ← leastAt_any h0, ← hz, decide_eq_true h2]
  rfl
theorem distV_miss {g : GraphD} {d : Int} {out l : List Int} {v : Nat} {z : Int} (hl : rowG g v = l) (h0 : ∀ x ∈ l, 0 ≤ x) (hz : leastAtF l out z = leastAtF l out (d - 1)) (h2 : ¬ 0 ≤ leastAtF l out z) : distV g [] d out v = out := by
  have hn : atB [] v = false := rfl
  unfold distV
  rw [hn, Bool.false_or, hl, ← leastAt_any h0, ← hz, decide_eq_false h2]
  simp
set_option maxRecDepth 100000 in
set_option maxHeartbeats 4000000 in
theorem distancesFrom_c (A B : Option Addr) (c d : Nat) (g : GraphD) (s : List Bool) (goal : Nat) (w : World) (hh : RowsAt w A (woG g s)) (hs : Holds w B (s.map Bo)) (hg : validG g = true) (hsl : s.length = g.length) (hgoal : goal < g.length) :
    Calls Try.prog 28 #[.slice A g.length c, .slice B s.length d, .int .i64 goal] w fun e w' => ∃ v, e = .returned v ∧ w'.ownsRow w.heap.size 3 1 v g.length ((distF g s goal).map Iv) ∧ Below w.heap.size w w' := by
  have HF0 := Lib.hid (fun h => dist_dev (s := s) hg hgoal h)
  have HF1 := Lib.hid (fun h => distF_shut (g := g) (s := s) (goal := goal) h)
  have hv := woG_valid (s := s) hg
  have hl24 := validG_len hg
  have hol := woG_length g s
  have HR := Lib.hid (validG_short hv)
  have HX := Lib.hid (fun (k : Nat) (hk : k < (woG g s).length) => validG_row hv hk)
  have HSL := Lib.hid hsl
  have HH := Lib.hid hh
  have HS := Lib.hid hs
  have HOL := Lib.hid hol
  have hsl2 : goal < s.length := by omega
  have hat : atB s goal = s[goal] := by unfold atB; rw [List.getD_eq_getElem?_getD, List.getElem?_eq_getElem hsl2]; rfl
  have HAT := Lib.hid hat
  clear hh hs hg hsl hv hol hat
  generalize woG g s = O at *
  generalize distF g s goal = D at *
  have CR := Lib.hid (repeat_c w.heap.size g.length (w.alloc (.cells #[.int .i64 (-1)] 3)) (new_cellR _ _ _) hl24)
  rw [show (w.alloc (.cells #[.int .i64 (-1)] 3)).heap.size = w.heap.size + 1 from by simp] at CR
  go_enter Try.func28, Try.ntmps28
  go_wp2_with fail
  refine CR.out.mono ?_
  rintro e w1 ⟨rfl, own1, hb1⟩
  have HO1 : Hid (w1.ownsRow (w.heap.size + 1) 3 1 (.slice (some ⟨w.heap.size + 1, 0, none⟩) g.length g.length) g.length ((List.replicate g.length (-1 : Int)).map Iv)) := Lib.hid (by rw [List.map_replicate]; exact own1)
  have HB1 := Lib.hid ((below_alloc w (.cells #[.int .i64 (-1)] 3)).trans (hb1.mono (by simp)))
  clear own1 hb1 CR
  obtain ⟨bs, os, rfl, hsc⟩ := HS.out.bo hsl2
  have hbs : bs < w.heap.size := World.block_lt_of_cell? _ _ hsc
  have hscr : w1.cell? ⟨bs, os + goal, none⟩ = some (.bool s[goal]) := (HB1.out.cell (p := ⟨bs, os + goal, none⟩) hbs).trans hsc
  clear hsc hbs
  obtain ⟨G, hG⟩ : ∃ G, G = w.heap.size + 1 := ⟨_, rfl⟩
  rw [← hG] at HO1 ⊢
  have HGG := Lib.hid hG
  clear hG
  generalize s[goal] = sg at *
  rcases sg with _ | _
  · have HF := Lib.hid (HF0.out HAT.out)
    clear HF0 HF1 HAT
    have hrl : (List.replicate g.length (-1 : Int)).length = g.length := by simp
    generalize List.replicate g.length (-1 : Int) = ones at *
    obtain ⟨hc1, hc2⟩ := own_num HO1.out goal (by omega)
    have HO2 := Lib.hid (own_num_set HO1.out goal 0)
    have HB2 := Lib.hid (below_put (i := goal) (v := .int .i64 0) HB1.out (by have := HGG.out; omega : w.heap.size ≤ G))
    have hil : (ones.set goal 0).length = g.length := by simpa using hrl
    go_wp2
    clear hscr hc1 hc2 HO1 HB1
    generalize w1.setCell ⟨G, goal, none⟩ (.int .i64 0) = w2 at *
    generalize ones.set goal 0 = init at *
    have HIN := Lib.hid (show ∀ k, (distK O [] init k).length = g.length from fun k => by rw [distK_length]; exact hil)
    go_loopw [8, 9, 24] (fun _ _ v wr => ∃ (k : Nat), v = .int .i64 k ∧ k ≤ g.length ∧ Hid (wr.ownsRow G 3 1 (.slice (some ⟨G, 0, none⟩) g.length g.length) g.length ((distK O [] init k).map Iv)) ∧ Hid (Below w.heap.size w wr)) (fun _ _ v _ => g.length - (intOf v).toNat)
    case atStart => exact ⟨0, rfl, Nat.zero_le _, HO2, HB2⟩
    case round =>
      clear HO2 HB2
      obtain ⟨k, rfl, hk, HO, HB⟩ := hrel
      by_cases hlt : k < g.length
      · have HSt := Lib.hid (distK_succ O [] init k)
        rw [HOL.out] at HSt
        have hol0 := HIN.out k
        generalize distK O [] init k = out0 at *
        go_wp2
        go_loopw [9, 29] (fun _ v wr => ∃ (u : Nat), v = .int .i64 u ∧ u ≤ g.length ∧ Hid (wr.ownsRow G 3 1 (.slice (some ⟨G, 0, none⟩) g.length g.length) g.length ((distR O [] ((k : Int) + 1) out0 u).map Iv)) ∧ Hid (Below w.heap.size w wr)) (fun _ v _ => g.length - (intOf v).toNat)
        case atStart => exact ⟨0, rfl, Nat.zero_le _, HO, HB⟩
        case round =>
          clear HO HB
          obtain ⟨u, rfl, hu, HO, HB⟩ := hrel
          by_cases hult : u < g.length
          · have HSR := Lib.hid (distR_succ O [] ((k : Int) + 1) out0 u)
            have hrl2 := distR_length O [] ((k : Int) + 1) out0 u
            generalize distR O [] ((k : Int) + 1) out0 u = out at *
            have hou : u < out.length := by omega
            obtain ⟨hc1, hc2⟩ := own_num HO.out u hou
            have hgd : out.getD u (-1) = out[u] := by rw [List.getD_eq_getElem?_getD, List.getElem?_eq_getElem hou]; rfl
            by_cases hneg : out[u] < 0
            · have hdec : decide (out[u] < 0) = true := by simpa using hneg
              have huO : u < O.length := by have := HOL.out; omega
              obtain ⟨bg, og, A1, c1, rfl, e1, h1⟩ := HH.out.one huO
              have hbg : bg < w.heap.size := World.block_lt_of_cell? _ _ e1
              have e1r : wr.cell? ⟨bg, og + u, none⟩ = some (.slice A1 O[u].length c1) := (HB.out.cell (p := ⟨bg, og + u, none⟩) hbg).trans e1
              have hrl24 := HR.out _ (List.getElem_mem huO)
              have hxx := HX.out u huO
              have hrow := rowG_at huO
              have hO : ∃ AD, wr.cell? ⟨G, u, none⟩ = some (.int .i64 out[u]) ∧ AD = (some (⟨G, 0, none⟩ : Addr)) ∧ Holds wr AD (out.map Iv) := ⟨_, hc1, rfl, by obtain ⟨AA, cc, he, hH⟩ := own_is HO.out; injection he with he; rw [he]; exact hH⟩
              obtain ⟨AD, _, hAD, hHD⟩ := hO
              subst hAD
              have CL := Lib.hid (leastAt_c A1 (some ⟨G, 0, none⟩) c1 g.length O[u] out (k : Int) wr (h1.keep HB.out) hHD (fun x hx => by have := hxx x hx; have := HOL.out; omega) hrl24)
              rw [show out.length = g.length by omega] at CL
              have hz : leastAtF O[u] out (k : Int) = leastAtF O[u] out ((k : Int) + 1 - 1) := by rw [Int.add_sub_cancel]
              rw [← hgd] at hneg
              have HHit := Lib.hid (fun h => distV_hit hrow (fun x hx => (hxx x hx).1) hneg hz h)
              have HMiss := Lib.hid (fun h => distV_miss hrow (fun x hx => (hxx x hx).1) hz h)
              clear hgd e1 h1 hxx hHD hneg hz hrow
              generalize out[u] = ou at *
              generalize leastAtF O[u] out (k : Int) = least at *
              generalize O[u] = r at *
              go_wp2_with fail
              refine CL.out.mono ?_
              rintro e wx ⟨rfl, rfl⟩
              clear CL e1r
              by_cases hge : 0 ≤ least
              · have hdec2 : decide (0 ≤ least) = true := by simpa using hge
                have HN : Hid (distR O [] ((k : Int) + 1) out0 (u + 1) = out.set u ((k : Int) + 1)) := Lib.hid (by rw [HSR.out, HHit.out hge])
                have HOS := Lib.hid (own_num_set HO.out u ((k : Int) + 1))
                have HBS := Lib.hid (below_put (i := u) (v := .int .i64 ((k : Int) + 1)) HB.out (by have := HGG.out; omega : w.heap.size ≤ G))
                clear HHit HMiss HSR hge HO HB
                go_wp2
                go_roundw
                case rel => exact ⟨u + 1, by go_num, by omega, Lib.hid (by rw [HN.out]; exact HOS.out), HBS⟩
                case measure => simp [intOf]; omega
              · have hdec2 : decide (0 ≤ least) = false := by simpa using hge
                have HN : Hid (distR O [] ((k : Int) + 1) out0 (u + 1) = out) := Lib.hid (by rw [HSR.out, HMiss.out (by omega)])
                clear HHit HMiss HSR hge
                go_wp2
                go_roundw
                case rel => exact ⟨u + 1, by go_num, by omega, Lib.hid (by rw [HN.out]; exact HO.out), HB⟩
                case measure => simp [intOf]; omega
            · have hdec : decide (out[u] < 0) = false := by simpa using hneg
              have HN : Hid (distR O [] ((k : Int) + 1) out0 (u + 1) = out) := Lib.hid (by rw [HSR.out, distV_stay (.inr (by rw [hgd]; omega))])
              clear hgd HSR hneg
              generalize out[u] = ou at *
              go_wp2
              go_roundw
              case rel => exact ⟨u + 1, by go_num, by omega, Lib.hid (by rw [HN.out]; exact HO.out), HB⟩
              case measure => simp [intOf]; omega
          · obtain rfl : u = g.length := by omega
            go_wp2
            go_roundw
            case rel => exact ⟨k + 1, by go_num, by omega, Lib.hid (by rw [HSt.out]; exact HO.out), HB⟩
            case measure => simp [intOf]; omega
      · obtain rfl : k = g.length := by omega
        go_wp2
        go_ret
        exact ⟨_, rfl, ownsRow_base (by rw [← HF.out]; exact HO.out) (by have := HGG.out; omega), HB.out⟩
  · have HF := Lib.hid (HF1.out HAT.out)
    clear HF0 HF1 HAT
    go_wp2
    go_ret
    exact ⟨_, rfl, ownsRow_base (by rw [HF.out]; exact HO1.out) (by have := HGG.out; omega), HB1.out⟩
end Go.Proofs.Ytcfnilemikenhaa
