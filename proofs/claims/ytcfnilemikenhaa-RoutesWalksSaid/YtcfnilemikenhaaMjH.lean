/- Joined texts. -/
import Derived.Test.YtcfnilemikenhaaGsDist
import Derived.Test.YtcfnilemikenhaaRcSpec
import Derived.Test.YtcfnilemikenhaaCdSeen
import Derived.Test.YtcfnilemikenhaaGrHops
import Derived.Test.YtcfnilemikenhaaRtBase
import Derived.Test.YtcfnilemikenhaaRdWo
import Derived.Test.YtcfnilemikenhaaRowPut
namespace Go.Proofs.Ytcfnilemikenhaa.Fl

/-- The least vertex of a list that has this distance. -/
def leastAtF (l dist : List Int) (d : Int) : Int := (l.find? (fun x => decide (atI dist x = d))).getD (-1)
theorem leastAt_step {l dist : List Int} {d : Int} {k : Nat} (hk : k < l.length) : leastAtF (l.drop k) dist d = if atI dist l[k] = d then l[k] else leastAtF (l.drop (k + 1)) dist d := by
  unfold leastAtF
  rw [List.drop_eq_getElem_cons hk, List.find?_cons]
  by_cases h : atI dist l[k] = d
  · simp [h]
  · simp [h]
theorem leastAt_end {l dist : List Int} {d : Int} {k : Nat} (hk : l.length ≤ k) : leastAtF (l.drop k) dist d = -1 := by
  unfold leastAtF; rw [List.drop_of_length_le hk]; rfl
theorem leastAt_any {l dist : List Int} {d : Int} (h0 : ∀ x ∈ l, 0 ≤ x) : decide (0 ≤ leastAtF l dist d) = l.any (fun x => decide (atI dist x = d)) := by
  unfold leastAtF
  rcases h : l.find? (fun x => decide (atI dist x = d)) with _ | y
  · have h1 := List.find?_eq_none.1 h
    have : l.any (fun x => decide (atI dist x = d)) = false := by
      rw [List.any_eq_false]
      exact fun x hx => h1 x hx
    rw [this]
    rfl
  · have h1 := List.find?_some h
    have h2 := List.mem_of_find?_eq_some h
    have : l.any (fun x => decide (atI dist x = d)) = true := List.any_eq_true.2 ⟨y, h2, h1⟩
    rw [this]
    exact decide_eq_true (h0 y h2)
theorem woRow_any {s : List Bool} {l out : List Int} {d : Int} (ho : ∀ u, 0 ≤ dAt out u → atB s u = false) (hd : 0 ≤ d) : (woRow s l).any (fun x => decide (atI out x = d)) = l.any (fun x => decide (atI out x = d)) := by
  rw [Bool.eq_iff_iff, List.any_eq_true, List.any_eq_true]
  unfold woRow
  constructor
  · rintro ⟨x, hx, h⟩
    exact ⟨x, (List.mem_filter.1 hx).1, h⟩
  · rintro ⟨x, hx, h⟩
    refine ⟨x, List.mem_filter.2 ⟨hx, ?_⟩, h⟩
    have h1 : atI out x = d := of_decide_eq_true h
    have h2 := ho x.toNat (by show 0 ≤ atI out x; omega)
    simp [h2]
/-- One vertex in a round: over the graph without the edges at shut vertices as over the graph. -/
theorem distV_wo {g : GraphD} {s : List Bool} {out : List Int} {v : Nat} {d : Int} (hv : v < g.length) (hd : 1 ≤ d) (ho : ∀ u, 0 ≤ dAt out u → atB s u = false) : distV (woG g s) [] d out v = distV g s d out v := by
  have hn : atB [] v = false := rfl
  unfold distV
  rw [hn, woG_row hv]
  rcases hs : atB s v with _ | _
  · simp only [Bool.false_or, Bool.false_eq_true, if_false]
    rw [woRow_any ho (by omega)]
  · simp
theorem distR_wo {g : GraphD} {s : List Bool} {out : List Int} {d : Int} (hd : 1 ≤ d) (ho : ∀ u, 0 ≤ dAt out u → atB s u = false) : ∀ k, k ≤ g.length → distR (woG g s) [] d out k = distR g s d out k
  | 0, _ => rfl
  | k + 1, hk => by
    rw [distR_succ, distR_succ, distR_wo hd ho k (by omega)]
    exact distV_wo (by omega) hd (distR_open ho k)
theorem distK_wo {g : GraphD} {s : List Bool} {out : List Int} (ho : ∀ u, 0 ≤ dAt out u → atB s u = false) : ∀ k, distK (woG g s) [] out k = distK g s out k
  | 0 => rfl
  | k + 1 => by
    rw [distK_succ, distK_succ, distK_wo ho k, woG_length]
    exact distR_wo (by omega) (distK_open ho k) _ (Nat.le_refl _)
/-- A round past the last one changes nothing. -/
theorem distR_idle {g : GraphD} {s : List Bool} {goal : Nat} {out : List Int} (hg : validG g = true) (hn : 1 ≤ g.length) (h : DistInv g goal ((g.length : Int) - 1) out) : ∀ k, k ≤ g.length → distR g s (g.length : Int) out k = out
  | 0, _ => rfl
  | k + 1, hk => by
    rw [distR_succ, distR_idle hg hn h k (by omega)]
    have hinv := distV_inv (s := s) (v := k) hg (by omega) (d := (g.length : Int)) (by omega) (h.more (by omega))
    unfold distV at hinv ⊢
    split
    · rfl
    · rename_i h1
      split
      · rename_i h2
        rw [if_neg h1, if_pos h2] at hinv
        exfalso
        have := dist_small hinv (k := g.length) (u := k) (by omega) (by rw [dAt_set (by rw [h.len]; omega), if_pos rfl])
        omega
      · rfl
theorem dist_dev {g : GraphD} {s : List Bool} {goal : Nat} (hg : validG g = true) (hgo : goal < g.length) (hs : atB s goal = false) : distK (woG g s) [] ((List.replicate g.length (-1)).set goal 0) g.length = distF g s goal := by
  have h0 := dist_start (g := g) hgo
  have ho := start_open hgo hs
  rw [distK_wo ho]
  unfold distF
  rw [hs]
  simp only [Bool.false_eq_true, if_false]
  obtain ⟨m, hm⟩ : ∃ m, g.length = m + 1 := ⟨g.length - 1, by omega⟩
  have h1 := distK_inv (s := s) hg h0 m
  have h2 := distR_idle (s := s) hg (by omega) (h1.more (by omega)) g.length (Nat.le_refl _)
  conv => lhs; rw [hm]
  rw [distK_succ, hm, Nat.add_sub_cancel]
  rw [hm] at h2
  rw [show ((m : Int) + 1) = ((m + 1 : Nat) : Int) by omega]
  exact h2
theorem distF_open {g : GraphD} {s : List Bool} {goal : Nat} (hgo : goal < g.length) : ∀ u, 0 ≤ dAt (distF g s goal) u → atB s u = false := by
  rcases hs : atB s goal with _ | _
  · unfold distF
    rw [hs]
    exact distK_open (start_open hgo hs) _
  · intro u hu
    rw [distF_shut hs] at hu
    exfalso
    unfold dAt at hu
    rw [List.getD_eq_getElem?_getD, List.getElem?_replicate] at hu
    split at hu <;> simp at hu
/-- The hop over the graph without the edges at shut vertices. -/
theorem hop_dev {g : GraphD} {s : List Bool} {dist : List Int} {v : Nat} (hv : v < g.length) (ho : ∀ u, 0 ≤ dAt dist u → atB s u = false) (hp : 0 < dAt dist v) : leastAtF (rowG (woG g s) v) dist (dAt dist v - 1) = hopV g dist v := by
  have hsv := ho v (by omega)
  unfold hopV
  rw [if_pos hp, woG_row hv, hsv]
  unfold leastAtF hopOf woRow
  simp only [Bool.false_eq_true, if_false]
  rw [List.find?_filter]
  congr 2
  funext x
  rw [decide_eq_decide]
  constructor
  · rintro ⟨_, h⟩
    exact of_decide_eq_true h
  · intro h
    have h : atI dist x = dAt dist v - 1 := h
    have h2 := ho x.toNat (by show 0 ≤ atI dist x; omega)
    exact ⟨by rw [h2]; rfl, decide_eq_true h⟩
end Go.Proofs.Ytcfnilemikenhaa.Fl
namespace Go.Proofs.Ytcfnilemikenhaa
open Go Go.RowKit Fl

set_option maxRecDepth 100000 in
set_option maxHeartbeats 4000000 in
theorem leastAt_c (A B : Option Addr) (c d : Nat) (l dist : List Int) (z : Int) (w : World) (hl : Holds w A (l.map Iv)) (hd : Holds w B (dist.map Iv)) (hx : ∀ x ∈ l, 0 ≤ x ∧ x < dist.length) (hll : l.length ≤ 24) :
    Calls Try.prog 43 #[.slice A l.length c, .slice B dist.length d, .int .i64 z] w fun e w' => e = .returned (.int .i64 (leastAtF l dist z)) ∧ w = w' := by
  have HL := Lib.hid hl
  have HD := Lib.hid hd
  have HX := Lib.hid hx
  have HS : Hid (leastAtF (l.drop 0) dist z = leastAtF l dist z) := Lib.hid (by rw [List.drop_zero])
  have HT : Hid (∀ k, (hk : k < l.length) → leastAtF (l.drop k) dist z = if atI dist l[k] = z then l[k] else leastAtF (l.drop (k + 1)) dist z) := Lib.hid (fun k hk => leastAt_step hk)
  have HE : Hid (leastAtF (l.drop l.length) dist z = -1) := Lib.hid (leastAt_end (Nat.le_refl _))
  clear hl hd hx
  go_enter Try.func43, Try.ntmps43
  go_wp2
  go_loopw [11] (fun v wr => ∃ (k : Nat), v = .int .i64 k ∧ k ≤ l.length ∧ Hid (leastAtF (l.drop k) dist z = leastAtF l dist z) ∧ w = wr) (fun v _ => l.length - (intOf v).toNat)
  case atStart => exact ⟨0, rfl, Nat.zero_le _, HS, rfl⟩
  case round =>
    clear HS
    obtain ⟨k, rfl, hk, HS, rfl⟩ := hrel
    by_cases hlt : k < l.length
    · obtain ⟨bl, ol, rfl, el⟩ := HL.out.iv hlt
      obtain ⟨x0, x1⟩ := HX.out l[k] (List.getElem_mem hlt)
      have HTk := Lib.hid (HT.out k hlt)
      generalize l[k] = x at *
      obtain ⟨y, rfl⟩ := Int.eq_ofNat_of_zero_le x0
      have hyd : y < dist.length := by omega
      obtain ⟨bd, od, rfl, ed⟩ := HD.out.iv hyd
      have hat2 : atI dist (y : Int) = dist[y] := by unfold atI; rw [Int.toNat_natCast, List.getD_eq_getElem?_getD, List.getElem?_eq_getElem hyd]; rfl
      rw [hat2] at HTk
      clear x0 x1 hat2
      by_cases heq : dist[y] = z
      · have hbq : (dist[y] == z) = true := by simpa using heq
        have HF : Hid (leastAtF l dist z = y) := Lib.hid (by rw [← HS.out, HTk.out, if_pos heq])
        clear heq HTk HT HS HE
        generalize dist[y] = dy at *
        go_wp2
        go_ret
        exact ⟨by rw [HF.out]; rfl, rfl⟩
      · have hbq : (dist[y] == z) = false := by simpa using heq
        have HF : Hid (leastAtF (l.drop (k + 1)) dist z = leastAtF l dist z) := Lib.hid (by rw [← HS.out, HTk.out, if_neg heq])
        clear heq HTk
        generalize dist[y] = dy at *
        go_wp2
        go_roundw
        case rel => exact ⟨k + 1, by go_num, by omega, HF, trivial⟩
        case measure => simp [intOf]; omega
    · obtain rfl : k = l.length := by omega
      have HF : Hid (leastAtF l dist z = -1) := Lib.hid (by rw [← HS.out, HE.out])
      clear HT
      go_wp2
      go_ret
      exact ⟨by rw [HF.out]; rfl, rfl⟩
theorem new_cellR (W : World) (u : Value) (t : TypeId) : (W.alloc (.cells #[u] t)).cell? ⟨W.heap.size, 0, none⟩ = some u := by
  rw [cell_of_row _ _ 0 _ _ _ (heap_alloc_new W _)]
  rfl
theorem distV_hit {g : GraphD} {d : Int} {out l : List Int} {v : Nat} {z : Int} (hl : rowG g v = l) (h0 : ∀ x ∈ l, 0 ≤ x) (h1 : out.getD v (-1) < 0) (hz : leastAtF l out z = leastAtF l out (d - 1)) (h2 : 0 ≤ leastAtF l out z) : distV g [] d out v = out.set v d := by
  have hn : atB [] v = false := rfl
  unfold distV
  rw [hn, Bool.false_or, decide_eq_false (by omega), hl, ← leastAt_any h0, ← hz, decide_eq_true h2]
  rfl
theorem distV_miss {g : GraphD} {d : Int} {out l : List Int} {v : Nat} {z : Int} (hl : rowG g v = l) (h0 : ∀ x ∈ l, 0 ≤ x) (hz : leastAtF l out z = leastAtF l out (d - 1)) (h2 : ¬ 0 ≤ leastAtF l out z) : distV g [] d out v = out := by
  have hn : atB [] v = false := rfl
  unfold distV
  rw [hn, Bool.false_or, hl, ← leastAt_any h0, ← hz, decide_eq_false h2]
  simp
set_option maxRecDepth 100000 in
set_option maxHeartbeats 4000000 in
theorem distancesFrom_c (A B : Option Addr) (c d : Nat) (g : GraphD) (s : List Bool) (goal : Nat) (w : World) (hh : RowsAt w A (woG g s)) (hs : Holds w B (s.map Bo)) (hg : validG g = true) (hsl : s.length = g.length) (hgoal : goal < g.length) :
    Calls Try.prog 28 #[.slice A g.length c, .slice B s.length d, .int .i64 goal] w fun e w' => ∃ v, e = .returned v ∧ w'.ownsRow w.heap.size 3 1 v g.length ((distF g s goal).map Iv) ∧ Below w.heap.size w w' := by
  have HF0 := Lib.hid (fun h => dist_dev (s := s) hg hgoal h)
  have HF1 := Lib.hid (fun h => distF_shut (g := g) (s := s) (goal := goal) h)
  have hv := woG_valid (s := s) hg
  have hl24 := validG_len hg
  have hol := woG_length g s
  have HR := Lib.hid (validG_short hv)
  have HX := Lib.hid (fun (k : Nat) (hk : k < (woG g s).length) => validG_row hv hk)
  have HSL := Lib.hid hsl
  have HH := Lib.hid hh
  have HS := Lib.hid hs
  have HOL := Lib.hid hol
  have hsl2 : goal < s.length := by omega
  have hat : atB s goal = s[goal] := by unfold atB; rw [List.getD_eq_getElem?_getD, List.getElem?_eq_getElem hsl2]; rfl
  have HAT := Lib.hid hat
  clear hh hs hg hsl hv hol hat
  generalize woG g s = O at *
  generalize distF g s goal = D at *
  have CR := Lib.hid (repeat_c w.heap.size g.length (w.alloc (.cells #[.int .i64 (-1)] 3)) (new_cellR _ _ _) hl24)
  rw [show (w.alloc (.cells #[.int .i64 (-1)] 3)).heap.size = w.heap.size + 1 from by simp] at CR
  go_enter Try.func28, Try.ntmps28
  go_wp2_with fail
  refine CR.out.mono ?_
  rintro e w1 ⟨rfl, own1, hb1⟩
  have HO1 : Hid (w1.ownsRow (w.heap.size + 1) 3 1 (.slice (some ⟨w.heap.size + 1, 0, none⟩) g.length g.length) g.length ((List.replicate g.length (-1 : Int)).map Iv)) := Lib.hid (by rw [List.map_replicate]; exact own1)
  have HB1 := Lib.hid ((below_alloc w (.cells #[.int .i64 (-1)] 3)).trans (hb1.mono (by simp)))
  clear own1 hb1 CR
  obtain ⟨bs, os, rfl, hsc⟩ := HS.out.bo hsl2
  have hbs : bs < w.heap.size := World.block_lt_of_cell? _ _ hsc
  have hscr : w1.cell? ⟨bs, os + goal, none⟩ = some (.bool s[goal]) := (HB1.out.cell (p := ⟨bs, os + goal, none⟩) hbs).trans hsc
  clear hsc hbs
  obtain ⟨G, hG⟩ : ∃ G, G = w.heap.size + 1 := ⟨_, rfl⟩
  rw [← hG] at HO1 ⊢
  have HGG := Lib.hid hG
  clear hG
  generalize s[goal] = sg at *
  rcases sg with _ | _
  · have HF := Lib.hid (HF0.out HAT.out)
    clear HF0 HF1 HAT
    have hrl : (List.replicate g.length (-1 : Int)).length = g.length := by simp
    generalize List.replicate g.length (-1 : Int) = ones at *
    obtain ⟨hc1, hc2⟩ := own_num HO1.out goal (by omega)
    have HO2 := Lib.hid (own_num_set HO1.out goal 0)
    have HB2 := Lib.hid (below_put (i := goal) (v := .int .i64 0) HB1.out (by have := HGG.out; omega : w.heap.size ≤ G))
    have hil : (ones.set goal 0).length = g.length := by simpa using hrl
    go_wp2
    clear hscr hc1 hc2 HO1 HB1
    generalize w1.setCell ⟨G, goal, none⟩ (.int .i64 0) = w2 at *
    generalize ones.set goal 0 = init at *
    have HIN := Lib.hid (show ∀ k, (distK O [] init k).length = g.length from fun k => by rw [distK_length]; exact hil)
    go_loopw [8, 9, 24] (fun _ _ v wr => ∃ (k : Nat), v = .int .i64 k ∧ k ≤ g.length ∧ Hid (wr.ownsRow G 3 1 (.slice (some ⟨G, 0, none⟩) g.length g.length) g.length ((distK O [] init k).map Iv)) ∧ Hid (Below w.heap.size w wr)) (fun _ _ v _ => g.length - (intOf v).toNat)
    case atStart => exact ⟨0, rfl, Nat.zero_le _, HO2, HB2⟩
    case round =>
      clear HO2 HB2
      obtain ⟨k, rfl, hk, HO, HB⟩ := hrel
      by_cases hlt : k < g.length
      · have HSt := Lib.hid (distK_succ O [] init k)
        rw [HOL.out] at HSt
        have hol0 := HIN.out k
        generalize distK O [] init k = out0 at *
        go_wp2
        go_loopw [9, 29] (fun _ v wr => ∃ (u : Nat), v = .int .i64 u ∧ u ≤ g.length ∧ Hid (wr.ownsRow G 3 1 (.slice (some ⟨G, 0, none⟩) g.length g.length) g.length ((distR O [] ((k : Int) + 1) out0 u).map Iv)) ∧ Hid (Below w.heap.size w wr)) (fun _ v _ => g.length - (intOf v).toNat)
        case atStart => exact ⟨0, rfl, Nat.zero_le _, HO, HB⟩
        case round =>
          clear HO HB
          obtain ⟨u, rfl, hu, HO, HB⟩ := hrel
          by_cases hult : u < g.length
          · have HSR := Lib.hid (distR_succ O [] ((k : Int) + 1) out0 u)
            have hrl2 := distR_length O [] ((k : Int) + 1) out0 u
            generalize distR O [] ((k : Int) + 1) out0 u = out at *
            have hou : u < out.length := by omega
            obtain ⟨hc1, hc2⟩ := own_num HO.out u hou
            have hgd : out.getD u (-1) = out[u] := by rw [List.getD_eq_getElem?_getD, List.getElem?_eq_getElem hou]; rfl
            by_cases hneg : out[u] < 0
            · have hdec : decide (out[u] < 0) = true := by simpa using hneg
              have huO : u < O.length := by have := HOL.out; omega
              obtain ⟨bg, og, A1, c1, rfl, e1, h1⟩ := HH.out.one huO
              have hbg : bg < w.heap.size := World.block_lt_of_cell? _ _ e1
              have e1r : wr.cell? ⟨bg, og + u, none⟩ = some (.slice A1 O[u].length c1) := (HB.out.cell (p := ⟨bg, og + u, none⟩) hbg).trans e1
              have hrl24 := HR.out _ (List.getElem_mem huO)
              have hxx := HX.out u huO
              have hrow := rowG_at huO
              have hO : ∃ AD, wr.cell? ⟨G, u, none⟩ = some (.int .i64 out[u]) ∧ AD = (some (⟨G, 0, none⟩ : Addr)) ∧ Holds wr AD (out.map Iv) := ⟨_, hc1, rfl, by obtain ⟨AA, cc, he, hH⟩ := own_is HO.out; injection he with he; rw [he]; exact hH⟩
              obtain ⟨AD, _, hAD, hHD⟩ := hO
              subst hAD
              have CL := Lib.hid (leastAt_c A1 (some ⟨G, 0, none⟩) c1 g.length O[u] out (k : Int) wr (h1.keep HB.out) hHD (fun x hx => by have := hxx x hx; have := HOL.out; omega) hrl24)
              rw [show out.length = g.length by omega] at CL
              have hz : leastAtF O[u] out (k : Int) = leastAtF O[u] out ((k : Int) + 1 - 1) := by rw [Int.add_sub_cancel]
              rw [← hgd] at hneg
              have HHit := Lib.hid (fun h => distV_hit hrow (fun x hx => (hxx x hx).1) hneg hz h)
              have HMiss := Lib.hid (fun h => distV_miss hrow (fun x hx => (hxx x hx).1) hz h)
              clear hgd e1 h1 hxx hHD hneg hz hrow
              generalize out[u] = ou at *
              generalize leastAtF O[u] out (k : Int) = least at *
              generalize O[u] = r at *
              go_wp2_with fail
              refine CL.out.mono ?_
              rintro e wx ⟨rfl, rfl⟩
              clear CL e1r
              by_cases hge : 0 ≤ least
              · have hdec2 : decide (0 ≤ least) = true := by simpa using hge
                have HN : Hid (distR O [] ((k : Int) + 1) out0 (u + 1) = out.set u ((k : Int) + 1)) := Lib.hid (by rw [HSR.out, HHit.out hge])
                have HOS := Lib.hid (own_num_set HO.out u ((k : Int) + 1))
                have HBS := Lib.hid (below_put (i := u) (v := .int .i64 ((k : Int) + 1)) HB.out (by have := HGG.out; omega : w.heap.size ≤ G))
                clear HHit HMiss HSR hge HO HB
                go_wp2
                go_roundw
                case rel => exact ⟨u + 1, by go_num, by omega, Lib.hid (by rw [HN.out]; exact HOS.out), HBS⟩
                case measure => simp [intOf]; omega
              · have hdec2 : decide (0 ≤ least) = false := by simpa using hge
                have HN : Hid (distR O [] ((k : Int) + 1) out0 (u + 1) = out) := Lib.hid (by rw [HSR.out, HMiss.out (by omega)])
                clear HHit HMiss HSR hge
                go_wp2
                go_roundw
                case rel => exact ⟨u + 1, by go_num, by omega, Lib.hid (by rw [HN.out]; exact HO.out), HB⟩
                case measure => simp [intOf]; omega
            · have hdec : decide (out[u] < 0) = false := by simpa using hneg
              have HN : Hid (distR O [] ((k : Int) + 1) out0 (u + 1) = out) := Lib.hid (by rw [HSR.out, distV_stay (.inr (by rw [hgd]; omega))])
              clear hgd HSR hneg
              generalize out[u] = ou at *
              go_wp2
              go_roundw
              case rel => exact ⟨u + 1, by go_num, by omega, Lib.hid (by rw [HN.out]; exact HO.out), HB⟩
              case measure => simp [intOf]; omega
          · obtain rfl : u = g.length := by omega
            go_wp2
            go_roundw
            case rel => exact ⟨k + 1, by go_num, by omega, Lib.hid (by rw [HSt.out]; exact HO.out), HB⟩
            case measure => simp [intOf]; omega
      · obtain rfl : k = g.length := by omega
        go_wp2
        go_ret
        exact ⟨_, rfl, ownsRow_base (by rw [← HF.out]; exact HO.out) (by have := HGG.out; omega), HB.out⟩
  · have HF := Lib.hid (HF1.out HAT.out)
    clear HF0 HF1 HAT
    go_wp2
    go_ret
    exact ⟨_, rfl, ownsRow_base (by rw [HF.out]; exact HO1.out) (by have := HGG.out; omega), HB1.out⟩
end Go.Proofs.Ytcfnilemikenhaa
namespace Go.Proofs.Ytcfnilemikenhaa
open Go Go.RowKit Fl

/-- The first k hops, and -1 behind them. -/
def hopsN (g : GraphD) (dist L : List Int) (k : Nat) : Prop := hopsTo g dist L k ∧ ∀ j, k ≤ j → j < g.length → L[j]? = some (-1)
theorem hopsN_stay {g : GraphD} {dist L : List Int} {k : Nat} (h : hopsN g dist L k) (hk : k < g.length) (hz : hopV g dist k = -1) : hopsN g dist L (k + 1) :=
  ⟨fun j hj => by
    rcases Nat.lt_succ_iff_lt_or_eq.1 hj with h1 | rfl
    · exact h.1 j h1
    · rw [hz]; exact h.2 j (Nat.le_refl _) hk, fun j h1 h2 => h.2 j (by omega) h2⟩
theorem hopsN_put {g : GraphD} {dist L : List Int} {k : Nat} {z : Int} (h : hopsN g dist L k) (hk : k < L.length) (hz : z = hopV g dist k) : hopsN g dist (L.set k z) (k + 1) :=
  ⟨hopsTo_snoc h.1 hk hz, fun j h1 h2 => by rw [List.getElem?_set, if_neg (by omega)]; exact h.2 j (by omega) h2⟩
set_option maxRecDepth 100000 in
set_option maxHeartbeats 4000000 in
theorem hopsTo_c (A B : Option Addr) (c d : Nat) (g : GraphD) (s : List Bool) (goal : Nat) (w : World) (hh : RowsAt w A (woG g s)) (hs : Holds w B (s.map Bo)) (hg : validG g = true) (hsl : s.length = g.length) (hgoal : goal < g.length) :
    Calls Try.prog 31 #[.slice A g.length c, .slice B s.length d, .int .i64 goal] w fun e w' => ∃ v, e = .returned v ∧ w'.ownsRow w.heap.size 3 1 v g.length ((hopsL g (distF g s goal)).map Iv) ∧ Below w.heap.size w w' := by
  have CD := Lib.hid (distancesFrom_c A B c d g s goal w hh hs hg hsl hgoal)
  have hl24 := validG_len hg
  have hv := woG_valid (s := s) hg
  have hol := woG_length g s
  have HR := Lib.hid (validG_short hv)
  have HX := Lib.hid (fun (k : Nat) (hk : k < (woG g s).length) => validG_row hv hk)
  have HOL := Lib.hid hol
  have HDB := Lib.hid (distF_bounds (s := s) hg hgoal)
  have HDL := Lib.hid (distF_length g s goal)
  have HHop := Lib.hid (fun (v : Nat) (hv : v < g.length) h => hop_dev (dist := distF g s goal) hv (distF_open (s := s) hgoal) h)
  have HH := Lib.hid hh
  clear hh hs hg hv hol hsl
  generalize distF g s goal = dist at *
  generalize woG g s = O at *
  go_enter Try.func31, Try.ntmps31
  go_wp2_with fail
  refine CD.out.mono ?_
  rintro e w1 ⟨vd, rfl, own1, hb1⟩
  obtain ⟨AD, cD, rfl, hD⟩ := own_is own1
  have HD := Lib.hid hD
  have HB1 := Lib.hid hb1
  clear CD own1 hD hb1
  have CR := Lib.hid (repeat_c w1.heap.size g.length (w1.alloc (.cells #[.int .i64 (-1)] 3)) (new_cellR _ _ _) hl24)
  rw [show (w1.alloc (.cells #[.int .i64 (-1)] 3)).heap.size = w1.heap.size + 1 from by simp] at CR
  go_wp2_with fail
  refine CR.out.mono ?_
  rintro e w2 ⟨rfl, own2, hb2⟩
  have HO2 : Hid (w2.ownsRow (w1.heap.size + 1) 3 1 (.slice (some ⟨w1.heap.size + 1, 0, none⟩) g.length g.length) g.length ((List.replicate g.length (-1 : Int)).map Iv)) := Lib.hid (by rw [List.map_replicate]; exact own2)
  have HB2 := Lib.hid ((below_alloc w1 (.cells #[.int .i64 (-1)] 3)).trans (hb2.mono (by simp)))
  clear own2 hb2 CR
  obtain ⟨G, hG⟩ : ∃ G, G = w1.heap.size + 1 := ⟨_, rfl⟩
  rw [← hG] at HO2 ⊢
  have HGG := Lib.hid hG
  clear hG
  have HN2 : Hid (hopsN g dist (List.replicate g.length (-1 : Int)) 0) := Lib.hid ⟨fun j hj => by omega, fun j _ h2 => by rw [List.getElem?_replicate, if_pos h2]⟩
  have hrl : (List.replicate g.length (-1 : Int)).length = g.length := by simp
  generalize List.replicate g.length (-1 : Int) = ones at *
  go_wp2
  go_loopw [9, 10, 21] (fun _ _ v wr => ∃ (k : Nat) (L : List Int), v = .int .i64 k ∧ k ≤ g.length ∧ Hid (L.length = g.length) ∧ Hid (hopsN g dist L k) ∧ Hid (wr.ownsRow G 3 1 (.slice (some ⟨G, 0, none⟩) g.length g.length) g.length (L.map Iv)) ∧ Hid (Below w1.heap.size w1 wr)) (fun _ _ v _ => g.length - (intOf v).toNat)
  case atStart => exact ⟨0, ones, rfl, Nat.zero_le _, Lib.hid hrl, HN2, HO2, HB2⟩
  case round =>
    clear HO2 HB2 HN2 hrl
    obtain ⟨k, L, rfl, hk, HLL, HN, HO, HB⟩ := hrel
    by_cases hlt : k < g.length
    · have hkd : k < dist.length := by have := HDL.out; omega
      obtain ⟨bd, od, rfl, ed⟩ := HD.out.iv hkd
      have hbd : bd < w1.heap.size := World.block_lt_of_cell? _ _ ed
      have edr : wr.cell? ⟨bd, od + k, none⟩ = some (.int .i64 dist[k]) := (HB.out.cell (p := ⟨bd, od + k, none⟩) hbd).trans ed
      have hgd : dist.getD k (-1) = dist[k] := by rw [List.getD_eq_getElem?_getD, List.getElem?_eq_getElem hkd]; rfl
      have hdb := HDB.out k
      rw [hgd] at hdb
      by_cases hpos : 0 < dist[k]
      · have hdec : decide (0 < dist[k]) = true := by simpa using hpos
        have hkO : k < O.length := by have := HOL.out; omega
        obtain ⟨bg, og, A1, c1, rfl, e1, h1⟩ := HH.out.one hkO
        have hbg : bg < w.heap.size := World.block_lt_of_cell? _ _ e1
        have e1r : wr.cell? ⟨bg, og + k, none⟩ = some (.slice A1 O[k].length c1) := (HB.out.cell (p := ⟨bg, og + k, none⟩) (by have := HB1.out.size; show bg < _; omega)).trans ((HB1.out.cell (p := ⟨bg, og + k, none⟩) hbg).trans e1)
        have hrl24 := HR.out _ (List.getElem_mem hkO)
        have hxx := HX.out k hkO
        have hrow := rowG_at hkO
        have CL := Lib.hid (leastAt_c A1 (some ⟨bd, od, none⟩) c1 cD O[k] dist (dist[k] - 1) wr ((h1.keep HB1.out).keep HB.out) (HD.out.keep HB.out) (fun x hx => by have := hxx x hx; have := HOL.out; have := HDL.out; omega) hrl24)
        have hp := HHop.out k hlt (by show 0 < dist.getD k (-1); omega)
        rw [show dAt dist k = dist[k] from hgd, hrow] at hp
        have HPut := Lib.hid (hopsN_put HN.out (by have := HLL.out; omega) hp)
        have HOS := Lib.hid (own_num_set HO.out k (leastAtF O[k] dist (dist[k] - 1)))
        obtain ⟨cu, hc1, hc2⟩ : ∃ cu, wr.cell? ⟨G, k, none⟩ = some (.int .i64 cu) ∧ wr.frozen? ⟨G, k, none⟩ = false := ⟨_, own_num HO.out k (by have := HLL.out; omega)⟩
        have HBS := Lib.hid (below_put (i := k) (v := .int .i64 (leastAtF O[k] dist (dist[k] - 1))) HB.out (by have := HGG.out; omega : w1.heap.size ≤ G))
        have HLS : Hid ((L.set k (leastAtF O[k] dist (dist[k] - 1))).length = g.length) := Lib.hid (by rw [List.length_set]; exact HLL.out)
        have hw1 : IntKind.i64.wrap (dist[k] - 1) = dist[k] - 1 := IntWalk.i64_in _ (by omega)
        rw [HDL.out] at CL
        clear hgd h1 hxx hp hrow e1 ed hpos HN HO HB HLL HD HDL
        generalize leastAtF O[k] dist (dist[k] - 1) = z at *
        generalize O[k] = r at *
        generalize dist[k] = dk at *
        go_wp2_with fail
        refine CL.out.mono ?_
        rintro e wx ⟨rfl, rfl⟩
        clear CL
        go_wp2
        go_roundw
        case rel => exact ⟨k + 1, _, by go_num, by omega, HLS, HPut, HOS, HBS⟩
        case measure => simp [intOf]; omega
      · have hdec : decide (0 < dist[k]) = false := by simpa using hpos
        have HNS := Lib.hid (hopsN_stay HN.out hlt (hopV_neg (by rw [hgd]; exact hpos)))
        clear hgd hpos HN
        generalize dist[k] = dk at *
        go_wp2
        go_roundw
        case rel => exact ⟨k + 1, L, by go_num, by omega, HLL, HNS, HO, HB⟩
        case measure => simp [intOf]; omega
    · obtain rfl : k = g.length := by omega
      have HF := Lib.hid (hopsTo_all HLL.out HN.out.1)
      go_wp2
      go_ret
      have hs1 := HB1.out.size
      exact ⟨_, rfl, ownsRow_base (by rw [← HF.out]; exact HO.out) (by have := HGG.out; omega), HB1.out.trans (HB.out.mono hs1)⟩
end Go.Proofs.Ytcfnilemikenhaa
namespace Go.Proofs.Ytcfnilemikenhaa
open Go Go.RowKit Fl

def allIn (n : Nat) (vs : List Int) : Bool := vs.all fun v => decide (0 ≤ v ∧ v < n)
def opE (g : GraphD) (m : Nat) (vs : List Int) : Int := if chkG g m = 0 then (if allIn g.length vs then 0 else 19) else chkG g m
def opL (g : GraphD) (s : List Bool) (vs : List Int) : GraphD := if opE g s.length vs = 0 then woG g s else []
theorem allIn_step {n : Nat} {vs : List Int} {k : Nat} (hk : k < vs.length) : allIn n (vs.drop k) = (decide (0 ≤ vs[k] ∧ vs[k] < n) && allIn n (vs.drop (k + 1))) := by
  unfold allIn
  rw [List.drop_eq_getElem_cons hk, List.all_cons]
set_option maxRecDepth 100000 in
set_option maxHeartbeats 4000000 in
theorem openGraph_c (A B V : Option Addr) (c d cv : Nat) (g : GraphD) (s : List Bool) (vs : List Int) (w : World) (hh : RowsAt w A g) (hs : Holds w B (s.map Bo)) (hv : Holds w V (vs.map Iv)) (hz : Sized g) (hvl : vs.length ≤ 24) :
    Calls Try.prog 27 #[.slice A g.length c, .slice B s.length d, .slice V vs.length cv] w (WoPost w (opL g s vs) (opE g s.length vs)) := by
  have CC := Lib.hid (devWithout_c A B c d g s w hh hs hz.1 hz.2)
  by_cases h0 : chkG g s.length = 0
  · have HW : Hid (woL g s = woG g s) := Lib.hid (by unfold woL; rw [if_pos h0])
    have hval : validG g = true := by
      rcases chkG_cases g s.length with h | h | h
      · exact h.2.1
      · omega
      · omega
    have hl24 := validG_len hval
    have HWL := Lib.hid (woG_length g s)
    have HE0 : Hid (allIn g.length vs = true → opE g s.length vs = 0 ∧ opL g s vs = woG g s) := Lib.hid (fun h => by
      have h1 : opE g s.length vs = 0 := by unfold opE; rw [if_pos h0, h]; rfl
      exact ⟨h1, by unfold opL; rw [if_pos h1]⟩)
    have HE1 : Hid (allIn g.length vs = false → opE g s.length vs = 19 ∧ opL g s vs = []) := Lib.hid (fun h => by
      have h1 : opE g s.length vs = 19 := by unfold opE; rw [if_pos h0, h]; rfl
      exact ⟨h1, by unfold opL; rw [if_neg (by rw [h1]; decide)]⟩)
    have HV := Lib.hid hv
    have HSt : Hid (∀ (k : Nat) (hk : k < vs.length), allIn g.length (vs.drop k) = (decide (0 ≤ vs[k] ∧ vs[k] < g.length) && allIn g.length (vs.drop (k + 1)))) := Lib.hid (fun k hk => allIn_step hk)
    have HEnd : Hid (allIn g.length (vs.drop vs.length) = true) := Lib.hid (by simp [allIn])
    have HS0 : Hid (allIn g.length (vs.drop 0) = allIn g.length vs) := Lib.hid (by rw [List.drop_zero])
    rw [h0] at CC
    clear hh hs hz h0 hval hv
    generalize opE g s.length vs = oE at *
    generalize opL g s vs = oL at *
    generalize allIn g.length vs = al at *
    go_enter Try.func27, Try.ntmps27
    go_wp2_with fail
    refine CC.out.mono ?_
    rintro e w1 ⟨u, rfl, own1, hb1⟩
    rw [HW.out] at own1
    obtain ⟨A1, c1, rfl, _⟩ := own1.at_
    rw [HWL.out] at own1 ⊢
    have HO := Lib.hid own1
    have HB := Lib.hid hb1
    have HV1 := Lib.hid (HV.out.keep hb1)
    clear own1 hb1 CC HW HV
    go_wp2
    go_loopw [11, 23] (fun _ v wr => ∃ (k : Nat), v = .int .i64 k ∧ k ≤ vs.length ∧ Hid (allIn g.length (vs.drop k) = al) ∧ w1 = wr) (fun _ v _ => vs.length - (intOf v).toNat)
    case atStart => exact ⟨0, rfl, Nat.zero_le _, HS0, rfl⟩
    case round =>
      clear HS0
      obtain ⟨k, rfl, hk, HA, rfl⟩ := hrel
      by_cases hlt : k < vs.length
      · obtain ⟨bv, ov, rfl, ev⟩ := HV1.out.iv hlt
        have HSk := Lib.hid (HSt.out k hlt)
        generalize vs[k] = x at *
        by_cases hin : 0 ≤ x ∧ x < g.length
        · have hd1 : decide (x < 0) = false := by simp; omega
          have hd2 : decide ((g.length : Int) ≤ x) = false := by simp; omega
          have HA2 : Hid (allIn g.length (vs.drop (k + 1)) = al) := Lib.hid (by rw [← HA.out, HSk.out, decide_eq_true hin, Bool.true_and])
          clear hin HSk
          go_wp2
          go_roundw
          case rel => exact ⟨k + 1, by go_num, by omega, HA2, trivial⟩
          case measure => simp [intOf]; omega
        · have hal : al = false := by rw [← HA.out, HSk.out, decide_eq_false hin, Bool.false_and]
          obtain ⟨he1, he2⟩ := HE1.out hal
          have hcase : decide (x < 0) = true ∨ decide (x < 0) = false ∧ decide ((g.length : Int) ≤ x) = true := by simp only [decide_eq_true_eq, decide_eq_false_iff_not]; omega
          subst he1 he2
          clear hin HSk HA hal HE0 HE1 HSt HEnd
          rcases hcase with h1 | ⟨h1, h2⟩
          all_goals
            go_wp2
            go_ret2
            exact ⟨_, rfl, rowsOwn_nil _ _, HB.out⟩
      · obtain rfl : k = vs.length := by omega
        obtain ⟨he1, he2⟩ := HE0.out (by rw [← HA.out, HEnd.out])
        have HX : Hid (oL = woG g s) := Lib.hid he2
        subst he1
        clear HE0 HE1 HSt HEnd HA he2
        go_wp2
        go_ret2
        exact ⟨_, rfl, by rw [HX.out]; exact HO.out, HB.out⟩
  · have he : opE g s.length vs = chkG g s.length := by unfold opE; rw [if_neg h0]
    have HL : Hid (opL g s vs = []) := Lib.hid (by unfold opL; rw [if_neg (by rw [he]; exact h0)])
    have hcase : chkG g s.length = 19 ∨ chkG g s.length = 20 := by
      rcases chkG_cases g s.length with h | h | h
      · exact absurd h.1 h0
      · exact .inl h
      · exact .inr h
    rw [he]
    clear hh hs hz he h0 hv
    generalize opL g s vs = oL at *
    rcases hcase with h | h
    all_goals
      rw [h] at CC ⊢
      clear h
      go_enter Try.func27, Try.ntmps27
      go_wp2_with fail
      refine CC.out.mono ?_
      rintro e w1 ⟨u, rfl, own1, hb1⟩
      obtain ⟨A1, c1, rfl, _⟩ := own1.at_
      have HB1 := Lib.hid hb1
      clear own1 hb1 CC
      go_wp2
      go_ret2
      exact ⟨_, rfl, by rw [HL.out]; exact rowsOwn_nil _ _, HB1.out⟩
theorem opE_two (g : GraphD) (m : Nat) (a b : Int) : opE g m [a, b] = twoE g m a b := by
  unfold opE twoE allIn
  simp
theorem opE_one (g : GraphD) (m : Nat) (a : Int) : opE g m [a] = twoE g m a a := by
  unfold opE twoE allIn
  simp
theorem opE_none (g : GraphD) (m : Nat) : opE g m [] = chkG g m := by
  unfold opE allIn
  split
  · rename_i h; simp [h]
  · rfl
end Go.Proofs.Ytcfnilemikenhaa
namespace Go.Proofs.Ytcfnilemikenhaa
open Go Go.RowKit Fl

set_option maxRecDepth 100000 in
set_option maxHeartbeats 4000000 in
theorem devDistances_c (A B : Option Addr) (c d : Nat) (g : GraphD) (s : List Bool) (goal : Int) (w : World) (hh : RowsAt w A g) (hs : Holds w B (s.map Bo)) (hz : Sized g) :
    Calls Try.prog 12 #[.slice A g.length c, .slice B s.length d, .int .i64 goal] w (ListPost w (disL g s goal) (twoE g s.length goal goal)) := by
  have hba := below_alloc w (.cells #[.int .i64 goal] 3)
  have CC := openGraph_c A B (some ⟨w.heap.size, 0, none⟩) c d 1 g s [goal] (w.alloc (.cells #[.int .i64 goal] 3)) (hh.keep hba) (hs.keep hba) (lit_holds _ _ #[.int .i64 goal] _ _ rfl rfl) hz (by simp)
  rw [opE_one, show ([goal] : List Int).length = 1 from rfl] at CC
  have CC := Lib.hid CC
  have HBA := Lib.hid hba
  rcases twoE_cases g s.length goal goal with h0 | h0 | h0
  · have hz2 := twoE_zero h0
    obtain ⟨hv, hsl, ha, hb⟩ := hz2
    obtain ⟨n, rfl⟩ := Int.eq_ofNat_of_zero_le hb.1
    have hn : n < g.length := by omega
    have HL : Hid (disL g s (n : Int) = distF g s n) := Lib.hid (by unfold disL; rw [if_pos h0, Int.toNat_natCast])
    have HO : Hid (opL g s [(n : Int)] = woG g s) := Lib.hid (by unfold opL; rw [if_pos (by rw [opE_one]; exact h0)])
    have hwl := woG_length g s
    have CI := Lib.hid (fun (A1 : Option Addr) (c1 : Nat) (w1 : World) (h1 : RowsAt w1 A1 (woG g s)) (h2 : Below w.heap.size w w1) => distancesFrom_c A1 B c1 d g s n w1 h1 (hs.keep h2) hv hsl.symm.symm hn)
    have HDL := Lib.hid (distF_length g s n)
    rw [h0] at CC ⊢
    clear hh hs hz h0 hv ha hb hba hsl
    go_enter Try.func12, Try.ntmps12
    go_wp2_with fail
    refine CC.out.mono ?_
    rintro e w1 ⟨u, rfl, own1, hb1⟩
    rw [HO.out] at own1
    obtain ⟨A1, c1, rfl, r1⟩ := own1.at_
    rw [hwl]
    have HB1 := Lib.hid (HBA.out.trans (hb1.mono HBA.out.size))
    have R1 := Lib.hid (CI.out A1 c1 w1 r1 HB1.out)
    clear own1 r1 hb1 CC CI HBA HO hwl
    go_wp2_with fail
    refine R1.out.mono ?_
    rintro e w2 ⟨v, rfl, own2, hb2⟩
    have HO2 := Lib.hid (ownsRow_base own2 HB1.out.size)
    have HB2 := Lib.hid (HB1.out.trans (hb2.mono HB1.out.size))
    clear own2 hb2 R1 HB1
    go_wp2
    go_ret2
    exact ⟨_, rfl, by rw [HL.out, HDL.out]; exact HO2.out, HB2.out⟩
  all_goals
    have HE : Hid (disL g s goal = []) := Lib.hid (by unfold disL; rw [if_neg (by rw [h0]; decide)])
    rw [h0] at CC ⊢
    clear hh hs hz h0 hba
    go_enter Try.func12, Try.ntmps12
    go_wp2_with fail
    refine CC.out.mono ?_
    rintro e w1 ⟨u, rfl, own1, hb1⟩
    obtain ⟨A1, c1, rfl, _⟩ := own1.at_
    have HB1 := Lib.hid (HBA.out.trans (hb1.mono HBA.out.size))
    clear own1 hb1 CC HBA
    go_wp2
    go_ret2
    exact ⟨_, rfl, by rw [HE.out]; exact World.ownsRow_nil _ _ _ _, HB1.out⟩
set_option maxRecDepth 100000 in
set_option maxHeartbeats 4000000 in
theorem devHops_c (A B : Option Addr) (c d : Nat) (g : GraphD) (s : List Bool) (goal : Int) (w : World) (hh : RowsAt w A g) (hs : Holds w B (s.map Bo)) (hz : Sized g) :
    Calls Try.prog 14 #[.slice A g.length c, .slice B s.length d, .int .i64 goal] w (ListPost w (hopL g s goal) (twoE g s.length goal goal)) := by
  have hba := below_alloc w (.cells #[.int .i64 goal] 3)
  have CC := openGraph_c A B (some ⟨w.heap.size, 0, none⟩) c d 1 g s [goal] (w.alloc (.cells #[.int .i64 goal] 3)) (hh.keep hba) (hs.keep hba) (lit_holds _ _ #[.int .i64 goal] _ _ rfl rfl) hz (by simp)
  rw [opE_one, show ([goal] : List Int).length = 1 from rfl] at CC
  have CC := Lib.hid CC
  have HBA := Lib.hid hba
  rcases twoE_cases g s.length goal goal with h0 | h0 | h0
  · have hz2 := twoE_zero h0
    obtain ⟨hv, hsl, ha, hb⟩ := hz2
    obtain ⟨n, rfl⟩ := Int.eq_ofNat_of_zero_le hb.1
    have hn : n < g.length := by omega
    have HL : Hid (hopL g s (n : Int) = hopsL g (distF g s n)) := Lib.hid (by unfold hopL; rw [if_pos h0, Int.toNat_natCast])
    have HO : Hid (opL g s [(n : Int)] = woG g s) := Lib.hid (by unfold opL; rw [if_pos (by rw [opE_one]; exact h0)])
    have hwl := woG_length g s
    have CI := Lib.hid (fun (A1 : Option Addr) (c1 : Nat) (w1 : World) (h1 : RowsAt w1 A1 (woG g s)) (h2 : Below w.heap.size w w1) => hopsTo_c A1 B c1 d g s n w1 h1 (hs.keep h2) hv hsl.symm.symm hn)
    have HDL := Lib.hid (hopsL_len g (distF g s n))
    rw [h0] at CC ⊢
    clear hh hs hz h0 hv ha hb hba hsl
    go_enter Try.func14, Try.ntmps14
    go_wp2_with fail
    refine CC.out.mono ?_
    rintro e w1 ⟨u, rfl, own1, hb1⟩
    rw [HO.out] at own1
    obtain ⟨A1, c1, rfl, r1⟩ := own1.at_
    rw [hwl]
    have HB1 := Lib.hid (HBA.out.trans (hb1.mono HBA.out.size))
    have R1 := Lib.hid (CI.out A1 c1 w1 r1 HB1.out)
    clear own1 r1 hb1 CC CI HBA HO hwl
    go_wp2_with fail
    refine R1.out.mono ?_
    rintro e w2 ⟨v, rfl, own2, hb2⟩
    have HO2 := Lib.hid (ownsRow_base own2 HB1.out.size)
    have HB2 := Lib.hid (HB1.out.trans (hb2.mono HB1.out.size))
    clear own2 hb2 R1 HB1
    go_wp2
    go_ret2
    exact ⟨_, rfl, by rw [HL.out, HDL.out]; exact HO2.out, HB2.out⟩
  all_goals
    have HE : Hid (hopL g s goal = []) := Lib.hid (by unfold hopL; rw [if_neg (by rw [h0]; decide)])
    rw [h0] at CC ⊢
    clear hh hs hz h0 hba
    go_enter Try.func14, Try.ntmps14
    go_wp2_with fail
    refine CC.out.mono ?_
    rintro e w1 ⟨u, rfl, own1, hb1⟩
    obtain ⟨A1, c1, rfl, _⟩ := own1.at_
    have HB1 := Lib.hid (HBA.out.trans (hb1.mono HBA.out.size))
    clear own1 hb1 CC HBA
    go_wp2
    go_ret2
    exact ⟨_, rfl, by rw [HE.out]; exact World.ownsRow_nil _ _ _ _, HB1.out⟩
end Go.Proofs.Ytcfnilemikenhaa
namespace Go.Proofs.Ytcfnilemikenhaa
open Go Go.RowKit Fl

theorem hopsL_lt {g : GraphD} {dist : List Int} {v : Nat} (hv : v < g.length) : v < (hopsL g dist).length := by simp [hopsL]; exact hv
theorem hopsL_get {g : GraphD} {dist : List Int} {v : Nat} (hv : v < g.length) : (hopsL g dist)[v]'(hopsL_lt hv) = hopV g dist v := by
  have h := hopsL_at (dist := dist) hv
  rw [List.getElem?_eq_getElem (hopsL_lt hv)] at h
  injection h
set_option maxRecDepth 100000 in
set_option maxHeartbeats 4000000 in
theorem devPath_c (A B : Option Addr) (c d : Nat) (g : GraphD) (s : List Bool) (a0 goal0 : Int) (w : World) (hh : RowsAt w A g) (hs : Holds w B (s.map Bo)) (hz : Sized g) :
    Calls Try.prog 17 #[.slice A g.length c, .slice B s.length d, .int .i64 a0, .int .i64 goal0] w (ListPost w (patL g s a0 goal0) (twoE g s.length a0 goal0)) := by
  have hba := below_alloc w (.cells #[.int .i64 a0, .int .i64 goal0] 3)
  have CC := openGraph_c A B (some ⟨w.heap.size, 0, none⟩) c d 2 g s [a0, goal0] (w.alloc (.cells #[.int .i64 a0, .int .i64 goal0] 3)) (hh.keep hba) (hs.keep hba) (lit_holds _ _ #[.int .i64 a0, .int .i64 goal0] _ _ rfl rfl) hz (by simp)
  rw [opE_two, show ([a0, goal0] : List Int).length = 2 from rfl] at CC
  have CC := Lib.hid CC
  have HBA := Lib.hid hba
  rcases twoE_cases g s.length a0 goal0 with h0 | h0 | h0
  · have hz2 := twoE_zero h0
    obtain ⟨hv, hsl, ha0, hb0⟩ := hz2
    obtain ⟨a, rfl⟩ := Int.eq_ofNat_of_zero_le ha0.1
    obtain ⟨goal, rfl⟩ := Int.eq_ofNat_of_zero_le hb0.1
    have ha : a < g.length := by omega
    have hgoal : goal < g.length := by omega
    have hl24 := validG_len hv
    have HL : Hid (patL g s (a : Int) (goal : Int) = firstF g s a goal) := Lib.hid (by unfold patL; rw [if_pos h0, Int.toNat_natCast, Int.toNat_natCast])
    have HO : Hid (opL g s [(a : Int), (goal : Int)] = woG g s) := Lib.hid (by unfold opL; rw [if_pos (by rw [opE_two]; exact h0)])
    have hwl := woG_length g s
    have CH := Lib.hid (fun (A1 : Option Addr) (c1 : Nat) (w1 : World) (h1 : RowsAt w1 A1 (woG g s)) (h2 : Below w.heap.size w w1) => hopsTo_c A1 B c1 d g s goal w1 h1 (hs.keep h2) hv hsl hgoal)
    have HG := Lib.hid hv
    have HSht := Lib.hid (fun h : atB s goal = true => distF_shut (g := g) h)
    have HOpen := Lib.hid (distF_open (g := g) (s := s) hgoal)
    have HInv := Lib.hid (fun h : atB s goal = false => distF_inv hv hgoal h)
    have HDL := Lib.hid (distF_length g s goal)
    have HF : Hid (firstF g s a goal = if (distF g s goal).getD a (-1) < 0 then [] else pathF (hopsL g (distF g s goal)) ((distF g s goal).getD a (-1)).toNat a) := Lib.hid rfl
    have has : a < s.length := by omega
    have HAT := Lib.hid (atB_at has)
    have HS := Lib.hid hs
    rw [h0] at CC ⊢
    clear hh hs hz h0 hv ha0 hb0 hba hsl
    generalize firstF g s a goal = res at *
    generalize distF g s goal = dist at *
    go_enter Try.func17, Try.ntmps17
    go_wp2_with fail
    refine CC.out.mono ?_
    rintro e w1 ⟨u, rfl, own1, hb1⟩
    rw [HO.out] at own1
    obtain ⟨A1, c1, rfl, r1⟩ := own1.at_
    rw [hwl]
    have HB1 := Lib.hid (HBA.out.trans (hb1.mono HBA.out.size))
    have R1 := Lib.hid (CH.out A1 c1 w1 r1 HB1.out)
    clear own1 r1 hb1 CC CH HBA HO hwl
    go_wp2_with fail
    refine R1.out.mono ?_
    rintro e w2 ⟨v, rfl, own2, hb2⟩
    obtain ⟨AH, cH, rfl, hH⟩ := own_is own2
    have HH := Lib.hid hH
    have HB3 := Lib.hid (HB1.out.trans (hb2.mono HB1.out.size))
    clear own2 hb2 R1 HB1 hH
    obtain ⟨bs, os, rfl, esa⟩ := HS.out.bo has
    have esr : w2.cell? ⟨bs, os + a, none⟩ = some (.bool s[a]) := (HB3.out.cell (p := ⟨bs, os + a, none⟩) (World.block_lt_of_cell? _ _ esa)).trans esa
    have HHL := Lib.hid (fun (v : Nat) (hv : v < g.length) => hopsL_lt (dist := dist) hv)
    have HHV := Lib.hid (fun (v : Nat) (hv : v < g.length) => hopsL_get (dist := dist) hv)
    clear esa HS
    have hw2 : w2.heap.size = w2.heap.size := rfl
    by_cases hneg : dist.getD a (-1) < 0
    · rw [if_pos hneg] at HF
      have HNeg := Lib.hid (hopV_neg (g := g) (dist := dist) (v := a) (by omega))
      have HN := Lib.hid hneg
      have HGo : Hid (s[a] = false → ((a : Int) != (goal : Int)) = true) := Lib.hid (fun h => by
        rw [bne_iff_ne]
        intro e
        obtain rfl : a = goal := by omega
        have := (HInv.out (by rw [HAT.out]; exact h)).goal a ha
        have := this.2 rfl
        have := HN.out
        omega)
      clear hneg hw2
      generalize s[a] = sa at *
      rcases sa with _ | _
      · have hne := HGo.out rfl
        obtain ⟨bh, oh, rfl, eh⟩ := HH.out.iv (HHL.out a ha)
        rw [HHV.out a ha, HNeg.out] at eh
        clear HGo
        go_wp2
        go_ret2
        exact ⟨_, rfl, by rw [HL.out, HF.out]; exact World.ownsRow_nil _ _ _ _, HB3.out⟩
      · clear HGo
        go_wp2
        go_ret2
        exact ⟨_, rfl, by rw [HL.out, HF.out]; exact World.ownsRow_nil _ _ _ _, HB3.out⟩
    · rw [if_neg hneg] at HF
      have hsa : s[a] = false := by rw [← HAT.out]; exact HOpen.out a (by show 0 ≤ dist.getD a (-1); omega)
      rw [hsa] at esr
      have hso : atB s goal = false := by
        rcases h : atB s goal with _ | _
        · rfl
        · exfalso
          apply hneg
          rw [HSht.out h, List.getD_eq_getElem?_getD, List.getElem?_replicate]
          split <;> simp
      have HI := Lib.hid (HInv.out hso)
      have HLow := Lib.hid (HI.out.low a)
      obtain ⟨f0, hf0⟩ := Int.eq_ofNat_of_zero_le (show 0 ≤ dist.getD a (-1) by omega)
      have hf24 : f0 ≤ 24 := by have := HLow.out; omega
      have HF0 : Hid (dist.getD a (-1) = (f0 : Int)) := Lib.hid hf0
      rw [hf0, Int.toNat_natCast] at HF
      obtain ⟨bh, oh, rfl, eh⟩ := HH.out.iv (HHL.out a ha)
      rw [HHV.out a ha] at eh
      have hcase : ((a : Int) != (goal : Int)) = false ∨ ((a : Int) != (goal : Int)) = true ∧ decide (hopV g dist a < 0) = false := by
        by_cases hag : a = goal
        · left; simp [hag]
        · right
          refine ⟨by rw [bne_iff_ne]; omega, ?_⟩
          have hpos : 0 < dist.getD a (-1) := by
            have h1 := HI.out.goal a ha
            rcases Int.lt_or_le 0 (dist.getD a (-1)) with h | h
            · exact h
            · exact absurd (h1.1 (by omega)) hag
          obtain ⟨y, hy1, _⟩ := hop_near HI.out HG.out ha hpos
          rw [hy1]
          simp
      have HHc := Lib.hid hcase
      have HP4 : Hid ([(a : Int)] ++ (pathF (hopsL g dist) f0 a).tail = res) := Lib.hid (by rw [HF.out]; cases f0 <;> rfl)
      clear hneg hf0 HLow hso HInv HSht HOpen HF hsa hcase hw2
      generalize hopV g dist a = hva at eh HHc
      rcases HHc.out with hc | ⟨hc, hd⟩
      all_goals
        clear HHc
        go_wp2
        clear eh esr
        have own4 : (w2.alloc (.cells #[.int .i64 a] 3)).ownsRow w2.heap.size 3 1 (.slice (some ⟨w2.heap.size, 0, none⟩) 1 1) ([(a : Int)]).length (([(a : Int)]).map Iv) := own_one (heap_alloc_new w2 _) (Nat.le_refl _)
        have hb4 : Below w2.heap.size w2 (w2.alloc (.cells #[.int .i64 a] 3)) := (Below.refl _ _).alloc (Nat.le_refl _) _
        have HO4 := Lib.hid own4
        clear own4
        go_loopw [2, 13] (fun u v wr => ∃ (cur f : Nat) (out : List Int), u = .int .i64 cur ∧ cur < g.length ∧ Hid (dist.getD cur (-1) = (f : Int)) ∧ f ≤ 24 ∧ out.length ≤ 25 - f ∧ Hid (out ++ (pathF (hopsL g dist) f cur).tail = res) ∧ Hid (wr.ownsRow w2.heap.size 3 1 v out.length (out.map Iv)) ∧ Below w2.heap.size w2 wr) (fun u _ _ => (dist.getD (intOf u).toNat (-1)).toNat)
        case atStart => exact ⟨a, f0, _, rfl, ha, HF0, hf24, by simp; omega, HP4, HO4, hb4⟩
        case round =>
          clear HO4 HP4 hb4 HF0 hf24
          obtain ⟨cur, f, out, rfl, hcur, HFc, hf24, hol, HP, HO, hb⟩ := hrel
          by_cases hcg : cur = goal
          · have hne : ((cur : Int) != (goal : Int)) = false := by simp [hcg]
            have hf0 : f = 0 := by
              have h := (HI.out.goal cur hcur).2 hcg
              rw [HFc.out] at h
              omega
            have HR : Hid (out = res) := Lib.hid (by
              have h := HP.out
              rw [hf0] at h
              simpa [pathF] using h)
            clear HP
            go_wp2
            go_ret2
            exact ⟨_, rfl, by rw [HL.out, ← HR.out]; exact ownsRow_base HO.out HB3.out.size, HB3.out.trans (hb.mono HB3.out.size)⟩
          · have hne : ((cur : Int) != (goal : Int)) = true := by rw [bne_iff_ne]; omega
            have hpos : 0 < dist.getD cur (-1) := by
              rw [HFc.out]
              rcases Nat.eq_zero_or_pos f with h | h
              · exfalso
                apply hcg
                apply (HI.out.goal cur hcur).1
                rw [HFc.out, h]; rfl
              · omega
            obtain ⟨y, hy1, hy2, hy3⟩ := hop_near HI.out HG.out hcur hpos
            rw [HFc.out] at hpos hy3
            obtain ⟨f', rfl⟩ : ∃ f', f = f' + 1 := ⟨f - 1, by omega⟩
            have HFy : Hid (dist.getD y (-1) = (f' : Int)) := Lib.hid (by rw [hy3]; omega)
            have HP2 : Hid ((out ++ [(y : Int)]) ++ (pathF (hopsL g dist) f' y).tail = res) := Lib.hid (by
              rw [← HP.out, pathF_tail (y := (y : Int)) (by rw [hopsL_atI hcur, hy1])]
              simp)
            obtain ⟨bh2, oh2, hBeq, eh⟩ := HH.out.iv (HHL.out cur hcur)
            injection hBeq with hBeq
            injection hBeq with hB1 hB2
            subst hB1 hB2
            rw [HHV.out cur hcur, hy1] at eh
            have hbh : bh < w2.heap.size := World.block_lt_of_cell? _ _ eh
            have ehr : wr.cell? ⟨bh, oh + cur, none⟩ = some (.int .i64 y) := (hb.cell (p := ⟨bh, oh + cur, none⟩) hbh).trans eh
            have base := own_base HO.out
            have hsz := hb.size
            have HMs : Hid (dist.getD cur (-1) = ((f' + 1 : Nat) : Int)) := Lib.hid HFc.out
            clear hcg hpos hy1 hy3 eh HP HFc
            go_wp2_with (at_builtin; refine app_int _ rfl _ _ rfl w2.heap.size _ _ _ rfl (HO.out.alloc _) wr.heap.size y rfl (by simp [go_sem]) (by omega) (by simp; omega) ?_)
            intro v8 w8 own8 hg8
            have hb8 : Below w2.heap.size w2 w8 := (hb.alloc hb.size _).grown hg8 (by simp; omega) (fun k hk => base k hk)
            have HO8 : Hid (w8.ownsRow w2.heap.size 3 1 v8 (out ++ [(y : Int)]).length ((out ++ [(y : Int)]).map Iv)) := Lib.hid (by simpa using own8)
            clear own8 hg8 base HO
            go_wp2
            go_roundw
            case rel => exact ⟨y, f', _, rfl, hy2, HFy, by omega, by simp; omega, HP2, HO8, hb8⟩
            case measure => simp only [intOf, Int.toNat_natCast]; rw [HFy.out, HMs.out]; omega
  all_goals
    have HE : Hid (patL g s a0 goal0 = []) := Lib.hid (by unfold patL; rw [if_neg (by rw [h0]; decide)])
    rw [h0] at CC ⊢
    clear hh hs hz h0 hba
    go_enter Try.func17, Try.ntmps17
    go_wp2_with fail
    refine CC.out.mono ?_
    rintro e w1 ⟨u, rfl, own1, hb1⟩
    obtain ⟨A1, c1, rfl, _⟩ := own1.at_
    have HB1 := Lib.hid (HBA.out.trans (hb1.mono HBA.out.size))
    clear own1 hb1 CC HBA
    go_wp2
    go_ret2
    exact ⟨_, rfl, by rw [HE.out]; exact World.ownsRow_nil _ _ _ _, HB1.out⟩
end Go.Proofs.Ytcfnilemikenhaa
namespace Go.Proofs.Ytcfnilemikenhaa
open Go Go.RowKit Fl

theorem tab_part (g : GraphD) (s : List Bool) (n k : Nat) : rowsF n (fun i => if i < k + 1 then hopsL g (distF g s i) else []) = (rowsF n (fun i => if i < k then hopsL g (distF g s i) else [])).set k (hopsL g (distF g s k)) := by
  refine (rowsF_set (f' := fun i => if i < k + 1 then hopsL g (distF g s i) else []) (if_pos (Nat.lt_succ_self k)) fun i hi => ?_).symm
  by_cases h : i < k
  · show (if i < k + 1 then _ else _) = if i < k then _ else _
    rw [if_pos h, if_pos (by omega)]
  · show (if i < k + 1 then _ else _) = if i < k then _ else _
    rw [if_neg h, if_neg (by omega)]
theorem tab_all (g : GraphD) (s : List Bool) (n : Nat) : rowsF n (fun i => if i < n then hopsL g (distF g s i) else []) = tabF g s n := by
  unfold rowsF tabF
  refine List.map_congr_left fun i hi => ?_
  rw [if_pos (List.mem_range.1 hi)]
set_option maxRecDepth 100000 in
set_option maxHeartbeats 4000000 in
theorem devTable_c (A B : Option Addr) (c d : Nat) (g : GraphD) (s : List Bool) (w : World) (hh : RowsAt w A g) (hs : Holds w B (s.map Bo)) (hz : Sized g) :
    Calls Try.prog 19 #[.slice A g.length c, .slice B s.length d] w (WoPost w (tabL g s) (chkG g s.length)) := by
  have CC := openGraph_c A B none c d 0 g s [] w hh hs .nil hz (by simp)
  rw [opE_none, show ([] : List Int).length = 0 from rfl] at CC
  have CC := Lib.hid CC
  by_cases h0 : chkG g s.length = 0
  · have hv : validG g = true ∧ s.length = g.length := by
      rcases chkG_cases g s.length with h | h | h
      · exact h.2
      · omega
      · omega
    have hl24 := validG_len hv.1
    have HE : Hid (tabL g s = tabF g s g.length) := Lib.hid (by unfold tabL; rw [if_pos h0])
    have HO : Hid (opL g s [] = woG g s) := Lib.hid (by unfold opL; rw [if_pos (by rw [opE_none]; exact h0)])
    have hwl := woG_length g s
    have CH := Lib.hid (fun (A1 : Option Addr) (c1 : Nat) (w1 : World) (h1 : RowsAt w1 A1 (woG g s)) (h2 : Below w.heap.size w w1) (goal : Nat) (hg : goal < g.length) => hopsTo_c A1 B c1 d g s goal w1 h1 (hs.keep h2) hv.1 hv.2 hg)
    have HP := Lib.hid (fun k => tab_part g s g.length k)
    have HA := Lib.hid (tab_all g s g.length)
    have HHL := Lib.hid (fun k => hopsL_len g (distF g s k))
    rw [h0] at CC ⊢
    clear hh hs hz h0 hv
    go_enter Try.func19, Try.ntmps19
    go_wp2_with fail
    refine CC.out.mono ?_
    rintro e w1 ⟨u, rfl, own1, hb1⟩
    rw [HO.out] at own1
    obtain ⟨A1, c1, rfl, r1⟩ := own1.at_
    rw [hwl]
    have HB1 := Lib.hid hb1
    have HR1 := Lib.hid r1
    clear own1 r1 hb1 CC HO hwl
    go_wp2_with (refine make_any _ rfl _ _ 22 25 (.slice none 0 0) 24 Try.underlying22 Try.infoRowG rfl (by decide) rfl .i64 .i64 _ _ g.length rfl rfl rfl rfl (by omega) ?_)
    intro w2 own2 hb2
    have HO2 : Hid (RowsOwn w2 w1.heap.size (.slice (some ⟨w1.heap.size, 0, none⟩) g.length g.length) (rowsF g.length (fun i => if i < 0 then hopsL g (distF g s i) else []))) := Lib.hid (by
      rw [rowsF_congr (f' := fun _ => []) (fun i _ => by rw [if_neg (by omega)]), rowsF_nil]
      exact (rowsD_new own2).rows)
    have HB2 := Lib.hid hb2
    clear own2 hb2
    go_wp2
    go_loopw [9, 24] (fun _ v wr => ∃ (k : Nat), v = .int .i64 k ∧ k ≤ g.length ∧ Hid (RowsOwn wr w1.heap.size (.slice (some ⟨w1.heap.size, 0, none⟩) g.length g.length) (rowsF g.length (fun i => if i < k then hopsL g (distF g s i) else []))) ∧ Hid (Below w1.heap.size w1 wr)) (fun _ v _ => g.length - (intOf v).toNat)
    case atStart => exact ⟨0, rfl, Nat.zero_le _, HO2, HB2⟩
    case round =>
      clear HO2 HB2
      obtain ⟨k, rfl, hk, HOr, HBr⟩ := hrel
      have hws := HB1.out.size
      have hwr := HBr.out.size
      by_cases hlt : k < g.length
      · have CK := Lib.hid (CH.out A1 c1 wr (HR1.out.keep HBr.out) (HB1.out.trans (HBr.out.mono hws)) k hlt)
        go_wp2_with fail
        refine CK.out.mono ?_
        rintro e w3 ⟨v3, rfl, own3, hb3⟩
        have HO3 : Hid (w3.ownsRow wr.heap.size 3 1 v3 (hopsL g (distF g s k)).length ((hopsL g (distF g s k)).map Iv)) := Lib.hid (by rw [HHL.out]; exact own3)
        have HT3 := Lib.hid (HOr.out.keep hb3)
        have HB3 := Lib.hid (HBr.out.trans (hb3.mono hwr))
        have hw3 := hb3.size
        obtain ⟨A3, c3, rfl, _⟩ := own_is own3
        obtain ⟨cu, hc1, hc2⟩ : ∃ cu, w3.cell? ⟨w1.heap.size, k, none⟩ = some cu ∧ w3.frozen? ⟨w1.heap.size, k, none⟩ = false := by
          obtain ⟨vs, h1, h2, h3⟩ := HT3.out
          rw [rowsF_length] at h1
          exact ⟨_, own_get (by rw [rowsF_length] at h2; exact h2) (List.getElem?_eq_getElem (i := k) (by omega))⟩
        have HPl : Hid (RowsOwn (w3.setCell ⟨w1.heap.size, k, none⟩ (.slice A3 g.length c3)) w1.heap.size (.slice (some ⟨w1.heap.size, 0, none⟩) g.length g.length) (rowsF g.length (fun i => if i < k + 1 then hopsL g (distF g s i) else []))) := Lib.hid (by
          rw [HP.out]
          refine RowsOwn.place HT3.out (by rw [rowsF_length]) (fun _ _ => rfl) ?_
          have h := ownsRow_base HO3.out hwr
          refine own_to h fun q hq hqs => Below.heap_setCell _ _ _ _ (fun e2 => ?_)
          obtain ⟨cs2, h6⟩ := own_type h hq
          simp only at e2
          obtain ⟨vs, _, h2, _⟩ := HT3.out
          obtain ⟨cs3, h7⟩ := own_type h2 (k := w1.heap.size) rfl
          rw [e2, h7] at h6
          injection h6 with h6
          injection h6 with _ h8
          exact absurd h8 (by decide))
        have HBS := Lib.hid (below_put (i := k) (v := .slice A3 g.length c3) HB3.out (Nat.le_refl w1.heap.size))
        clear own3 hb3 CK HO3 HT3 HOr HBr HB3
        go_wp2
        go_roundw
        case rel => exact ⟨k + 1, by go_num, by omega, HPl, HBS⟩
        case measure => simp [intOf]; omega
      · obtain rfl : k = g.length := by omega
        have HRes : Hid (RowsOwn wr w.heap.size (.slice (some ⟨w1.heap.size, 0, none⟩) g.length g.length) (tabL g s)) := Lib.hid (by
          rw [HE.out, ← HA.out]
          obtain ⟨vs, a, b, c⟩ := HOr.out
          exact ⟨vs, a, ownsRow_base b hws, fun k u r h1 h2 => ownsRow_base (c k u r h1 h2) hws⟩)
        go_wp2
        go_ret2
        exact ⟨_, rfl, HRes.out, HB1.out.trans (HBr.out.mono hws)⟩
  · have HE : Hid (tabL g s = []) := Lib.hid (by unfold tabL; rw [if_neg h0])
    have hcase : chkG g s.length = 19 ∨ chkG g s.length = 20 := by
      rcases chkG_cases g s.length with h | h | h
      · exact absurd h.1 h0
      · exact .inl h
      · exact .inr h
    clear hh hs hz h0
    rcases hcase with h | h
    all_goals
      rw [h] at CC ⊢
      clear h
      go_enter Try.func19, Try.ntmps19
      go_wp2_with fail
      refine CC.out.mono ?_
      rintro e w1 ⟨u, rfl, own1, hb1⟩
      obtain ⟨A1, c1, rfl, _⟩ := own1.at_
      have HB1 := Lib.hid hb1
      clear own1 hb1 CC
      go_wp2
      go_ret2
      exact ⟨_, rfl, by rw [HE.out]; exact rowsOwn_nil _ _, HB1.out⟩
theorem devDist_k : DevDist := fun A B c d g s goal w hh hs hz => (devDistances_c A B c d g s goal w hh hs hz).mono fun _ _ h => h.res
theorem devHops_k : DevHops := fun A B c d g s goal w hh hs hz => (devHops_c A B c d g s goal w hh hs hz).mono fun _ _ h => h.res
theorem devPath_k : DevPath := fun A B c d g s a goal w hh hs hz => (devPath_c A B c d g s a goal w hh hs hz).mono fun _ _ h => h.res
theorem devTable_k : DevTable := fun A B c d g s w hh hs hz => (devTable_c A B c d g s w hh hs hz).mono fun _ _ ⟨u, h1, h2, h3⟩ => by
  obtain ⟨X, cx, rfl, h4⟩ := h2.at_
  exact ⟨X, cx, h1, h4, h3⟩
end Go.Proofs.Ytcfnilemikenhaa
