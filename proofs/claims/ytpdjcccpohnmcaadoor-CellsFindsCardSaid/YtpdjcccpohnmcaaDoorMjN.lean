/- Joined texts. -/
import Derived.Test.YtpdjcccpohnmcaaDoorGrApp
import Derived.IntWalk
import Derived.Test.YtpdjcccpohnmcaaDoorGrValid
namespace Go.Proofs.YtpdjcccpohnmcaaDoor
open Go Go.RowKit Fl

theorem own_num {w : World} {base n g cap : Nat} {L : List Int} (h : w.ownsRow base 3 1 (.slice (some ⟨g, 0, none⟩) n cap) n (L.map Iv)) (i : Nat) (hi : i < L.length) : w.cell? ⟨g, i, none⟩ = some (.int .i64 L[i]) ∧ w.frozen? ⟨g, i, none⟩ = false :=
  own_get h (by simp [hi])
theorem own_num_set {w : World} {base n g cap : Nat} {L : List Int} (h : w.ownsRow base 3 1 (.slice (some ⟨g, 0, none⟩) n cap) n (L.map Iv)) (i : Nat) (z : Int) : (w.setCell ⟨g, i, none⟩ (.int .i64 z)).ownsRow base 3 1 (.slice (some ⟨g, 0, none⟩) n cap) n ((L.set i z).map Iv) := by
  rw [List.map_set]; exact own_put h
theorem distK_step {g : GraphD} {s : List Bool} {out : List Int} {d : Nat} (h : 1 ≤ d) : distK g s out d = distR g s (d : Int) (distK g s out (d - 1)) g.length := by
  obtain ⟨k, rfl⟩ : ∃ k, d = k + 1 := ⟨d - 1, by omega⟩
  rw [distK_succ]; rfl
theorem distV_stay {g : GraphD} {s : List Bool} {d : Int} {out : List Int} {v : Nat} (h : atB s v = true ∨ 0 ≤ out.getD v (-1)) : distV g s d out v = out := by
  unfold distV
  rw [if_pos]
  rcases h with h | h
  · rw [h]; rfl
  · rw [decide_eq_true h, Bool.or_true]
/-- The list behind the first m elements of vertex v's row. -/
def curV (r out : List Int) (d : Int) (v m : Nat) : List Int := if (r.take m).any (fun x => decide (atI out x = d - 1)) then out.set v d else out
theorem curV_zero (r out : List Int) (d : Int) (v : Nat) : curV r out d v 0 = out := rfl
theorem curV_succ {r out : List Int} {d : Int} {v m : Nat} (h : m < r.length) : curV r out d v (m + 1) = if atI out r[m] = d - 1 then out.set v d else curV r out d v m := by
  unfold curV
  rw [List.take_succ_eq_append_getElem h, List.any_append]
  by_cases e : atI out r[m] = d - 1
  · simp [e]
  · simp [e]
theorem curV_all {g : GraphD} {s : List Bool} {d : Int} {out r : List Int} {v m : Nat} (h1 : atB s v = false) (h2 : out.getD v (-1) < 0) (hr : r = rowG g v) (hm : r.length ≤ m) : curV r out d v m = distV g s d out v := by
  unfold curV distV
  rw [List.take_of_length_le hm, ← hr, h1, if_neg (c := (false || decide (0 ≤ out.getD v (-1))) = true) (by rw [Bool.false_or, decide_eq_true_eq]; omega)]
theorem curV_length (r out : List Int) (d : Int) (v m : Nat) : (curV r out d v m).length = out.length := by unfold curV; split <;> simp
theorem curV_get {r out : List Int} {d : Int} {v m u : Nat} (h : u ≠ v) : (curV r out d v m)[u]? = out[u]? := by
  unfold curV
  split
  · rw [List.getElem?_set, if_neg (fun e => h e.symm)]
  · rfl
/-- A list of k times -1 and any further numbers. -/
def negs (L : List Int) (k : Nat) : Prop := ∀ j, j < k → L[j]? = some (-1)
theorem negs_all {L : List Int} (h : negs L L.length) : L = List.replicate L.length (-1) := by
  apply List.ext_getElem (by simp)
  intro i h1 h2
  have := h i h1
  rw [List.getElem?_eq_getElem h1] at this
  simp at this
  simpa using this
set_option maxRecDepth 100000 in
set_option maxHeartbeats 4000000 in
theorem dist_c (A B : Option Addr) (c d : Nat) (g : GraphD) (s : List Bool) (goal : Nat) (w : World) (hh : RowsAt w A g) (hs : Holds w B (s.map Bo)) (hg : validG g = true) (hsl : s.length = g.length) (hgoal : goal < g.length) :
    Calls Tryd.prog 81 #[.slice A g.length c, .slice B s.length d, .int .i64 goal] w fun e w' => ∃ v, e = .returned v ∧ w'.ownsRow w.heap.size 3 1 v g.length ((distF g s goal).map Iv) ∧ Below w.heap.size w w' := by
  have HH := Lib.hid hh
  have HS := Lib.hid hs
  have HG := Lib.hid hg
  have hl24 := validG_len hg
  have HR := Lib.hid (validG_short hg)
  have HSL := Lib.hid hsl
  have hsl2 : goal < s.length := by omega
  clear hh hs hg hsl
  go_enter Tryd.func81, Tryd.ntmps81
  go_wp2_with (refine make_any _ rfl _ _ 25 3 (.int .i64 0) 8 Tryd.underlying25 Tryd.infoIntG rfl (by decide) rfl .i64 .i64 _ _ g.length rfl rfl rfl rfl (by omega) ?_)
  intro w1 own1 hb1
  have hbb1 := hb1.size
  have HO1 : Hid (w1.ownsRow w.heap.size 3 1 (.slice (some ⟨w.heap.size, 0, none⟩) g.length g.length) g.length ((List.replicate g.length (0 : Int)).map Iv)) := Lib.hid (by rw [List.map_replicate]; exact own1)
  obtain ⟨G, hG⟩ : ∃ G, G = w.heap.size := ⟨_, rfl⟩
  rw [← hG] at HO1 hb1 hbb1 ⊢
  have HGG := Lib.hid hG
  clear own1 hG
  go_wp2
  go_loopw [8] (fun v wr => ∃ (k : Nat) (L : List Int), v = .int .i64 k ∧ k ≤ g.length ∧ L.length = g.length ∧ Hid (negs L k) ∧ Hid (wr.ownsRow G 3 1 (.slice (some ⟨G, 0, none⟩) g.length g.length) g.length (L.map Iv)) ∧ Below G w wr) (fun v _ => g.length - (intOf v).toNat)
  case atStart => exact ⟨0, _, rfl, Nat.zero_le _, by simp, Lib.hid (fun j hj => by omega), HO1, hb1⟩
  case round =>
    clear HO1 hb1 hbb1
    obtain ⟨k, L, rfl, hk, hL, HN, HO, hb⟩ := hrel
    by_cases hlt : k < g.length
    · obtain ⟨hc1, hc2⟩ := own_num HO.out k (by omega)
      go_wp2
      go_roundw
      case rel => exact ⟨k + 1, L.set k (-1), by go_num, by omega, by simpa using hL, Lib.hid (fun j hj => by
        rw [List.getElem?_set]
        by_cases e : k = j
        · subst e; simp; omega
        · rw [if_neg e]; exact HN.out j (by omega)), Lib.hid (own_num_set HO.out k (-1)), below_put hb (Nat.le_refl _)⟩
      case measure => simp [intOf]; omega
    · obtain ⟨bs, os, rfl, hsc⟩ := HS.out.bo hsl2
      have hbs : bs < w.heap.size := World.block_lt_of_cell? _ _ hsc
      have hscr : wr.cell? ⟨bs, os + goal, none⟩ = some (.bool s[goal]) := (hb.cell (p := ⟨bs, os + goal, none⟩) (by have := HGG.out; show bs < G; omega)).trans hsc
      have HL : Hid (L = List.replicate g.length (-1)) := Lib.hid (by
        have h := negs_all (L := L) (fun j hj => HN.out j (by omega))
        rw [hL] at h; exact h)
      have hat : atB s goal = s[goal] := by unfold atB; rw [List.getD_eq_getElem?_getD, List.getElem?_eq_getElem hsl2]; rfl
      rcases hsg : s[goal] with _ | _
      · rw [hsg] at hat hscr hsc
        have HF : Hid (distF g s goal = distK g s ((List.replicate g.length (-1)).set goal 0) (g.length - 1)) := Lib.hid (by unfold distF; rw [hat]; rfl)
        obtain ⟨hc1, hc2⟩ := own_num HO.out goal (by omega)
        have HO2 : Hid ((wr.setCell ⟨G, goal, none⟩ (.int .i64 0)).ownsRow G 3 1 (.slice (some ⟨G, 0, none⟩) g.length g.length) g.length ((distK g s ((List.replicate g.length (-1)).set goal 0) (1 - 1)).map Iv)) := Lib.hid (by rw [← HL.out]; exact own_num_set HO.out goal 0)
        have hb2 := below_put (i := goal) (v := .int .i64 0) hb (Nat.le_refl _)
        clear hat hsg hsc HN
        go_wp2
        clear hscr hc1 hc2
        have HIN := Lib.hid (show ∀ k, (distK g s ((List.replicate g.length (-1)).set goal 0) k).length = g.length from fun k => by rw [distK_length]; simp)
        generalize (List.replicate g.length (-1)).set goal 0 = init at *
        go_loopw [9] (fun v wr => ∃ (dd : Nat), v = .int .i64 dd ∧ 1 ≤ dd ∧ dd ≤ g.length ∧ Hid (wr.ownsRow G 3 1 (.slice (some ⟨G, 0, none⟩) g.length g.length) g.length ((distK g s init (dd - 1)).map Iv)) ∧ Below G w wr) (fun v _ => g.length - (intOf v).toNat)
        case atStart => exact ⟨1, rfl, by omega, by omega, HO2, hb2⟩
        case round =>
          clear HO2 hb2 hb HO
          obtain ⟨dd, rfl, hd1, hdn, HO, hb⟩ := hrel
          by_cases hdlt : dd < g.length
          · have HSt := Lib.hid (distK_step (g := g) (s := s) (out := init) hd1)
            have hol := HIN.out (dd - 1)
            generalize distK g s init (dd - 1) = out0 at *
            go_wp2
            go_loopw [10] (fun v wr => ∃ (u : Nat), v = .int .i64 u ∧ u ≤ g.length ∧ Hid (wr.ownsRow G 3 1 (.slice (some ⟨G, 0, none⟩) g.length g.length) g.length ((distR g s dd out0 u).map Iv)) ∧ Below G w wr) (fun v _ => g.length - (intOf v).toNat)
            case atStart => exact ⟨0, rfl, Nat.zero_le _, HO, hb⟩
            case round =>
              clear HO hb
              obtain ⟨u, rfl, hu, HO, hb⟩ := hrel
              by_cases hult : u < g.length
              · have hsu : u < s.length := by have := HSL.out; omega
                obtain ⟨bs, os, hBeq, hsc⟩ := HS.out.bo hsu
                injection hBeq with hBeq
                injection hBeq with hB1 hB2
                subst hB1 hB2
                have hbs : bs < w.heap.size := World.block_lt_of_cell? _ _ hsc
                have hscr : wr.cell? ⟨bs, os + u, none⟩ = some (.bool s[u]) := (hb.cell (p := ⟨bs, os + u, none⟩) (by have := HGG.out; show bs < G; omega)).trans hsc
                have hat : atB s u = s[u] := by unfold atB; rw [List.getD_eq_getElem?_getD, List.getElem?_eq_getElem hsu]; rfl
                have HSR := Lib.hid (distR_succ g s dd out0 u)
                have hrl := distR_length g s dd out0 u
                generalize distR g s dd out0 u = out at *
                have hou : u < out.length := by omega
                obtain ⟨hc1, hc2⟩ := own_num HO.out u hou
                have hgd : out.getD u (-1) = out[u] := by rw [List.getD_eq_getElem?_getD, List.getElem?_eq_getElem hou]; rfl
                clear hsc
                by_cases hstay : s[u] = true ∨ 0 ≤ out[u]
                · have HE : Hid (distR g s dd out0 (u + 1) = out) := Lib.hid (by rw [HSR.out, distV_stay (by rw [hat, hgd]; exact hstay)])
                  have hcase : s[u] = true ∨ s[u] = false ∧ decide (0 ≤ out[u]) = true := by
                    rcases hstay with h | h
                    · exact .inl h
                    · rcases hh : s[u] with _ | _
                      · exact .inr ⟨rfl, by simpa using h⟩
                      · exact .inl rfl
                  clear hat hgd hstay HSR
                  generalize s[u] = su at *
                  generalize out[u] = ou at *
                  rcases hcase with rfl | ⟨rfl, hge⟩
                  all_goals
                    go_wp2
                    go_roundw
                    case rel => exact ⟨u + 1, by go_num, by omega, Lib.hid (by rw [HE.out]; exact HO.out), hb⟩
                    case measure => simp [intOf]; omega
                · have hsf : s[u] = false := by rcases hh : s[u] with _ | _; rfl; exact absurd (.inl hh) hstay
                  have hneg : out[u] < 0 := by rcases Int.lt_or_le out[u] 0 with h | h; exact h; exact absurd (.inr h) hstay
                  have hdec : decide (0 ≤ out[u]) = false := by simp; omega
                  rw [hsf] at hscr hat
                  rw [← hgd] at hneg
                  have HCA := Lib.hid (fun (r : List Int) (m : Nat) (hr : r = rowG g u) (hm : r.length ≤ m) => curV_all (d := dd) hat hneg hr hm)
                  obtain ⟨bg, og, A1, c1, rfl, e1, h1⟩ := HH.out.one hult
                  have hbg : bg < w.heap.size := World.block_lt_of_cell? _ _ e1
                  have e1r : ∀ W, Below G w W → W.cell? ⟨bg, og + u, none⟩ = some (.slice A1 g[u].length c1) := fun W hW => (hW.cell (p := ⟨bg, og + u, none⟩) (by have := HGG.out; show bg < G; omega)).trans e1
                  have hrow : g[u] = rowG g u := by unfold rowG; rw [List.getD_eq_getElem?_getD, List.getElem?_eq_getElem hult]; rfl
                  have HRow := Lib.hid hrow
                  have hrl24 := HR.out _ (List.getElem_mem hult)
                  have HXX := Lib.hid (validG_row HG.out hult)
                  have H1 := Lib.hid h1
                  have HE1 := Lib.hid e1r
                  clear hat hneg hgd hsf hstay hrow h1 e1 e1r
                  generalize out[u] = ou at *
                  generalize g[u] = r at *
                  go_wp2
                  go_loopw [11] (fun v wr => ∃ (m : Nat), v = .int .i64 m ∧ m ≤ r.length ∧ Hid (wr.ownsRow G 3 1 (.slice (some ⟨G, 0, none⟩) g.length g.length) g.length ((curV r out dd u m).map Iv)) ∧ Below G w wr) (fun v _ => r.length - (intOf v).toNat)
                  case atStart => exact ⟨0, rfl, Nat.zero_le _, HO, hb⟩
                  case round =>
                    clear HO hb hscr hc1 hc2 hdec
                    obtain ⟨m, rfl, hm, HO, hb⟩ := hrel
                    have e1 := HE1.out wr hb
                    by_cases hmlt : m < r.length
                    · obtain ⟨br, or_, rfl, e2⟩ := H1.out.iv hmlt
                      have hbr : br < w.heap.size := World.block_lt_of_cell? _ _ e2
                      have e2r : wr.cell? ⟨br, or_ + m, none⟩ = some (.int .i64 r[m]) := (hb.cell (p := ⟨br, or_ + m, none⟩) (by have := HGG.out; show br < G; omega)).trans e2
                      obtain ⟨x0, x1, x2⟩ := HXX.out r[m] (List.getElem_mem hmlt)
                      have HCS := Lib.hid (curV_succ (out := out) (d := dd) (v := u) hmlt)
                      clear e2
                      generalize r[m] = x at *
                      obtain ⟨y, rfl⟩ := Int.eq_ofNat_of_zero_le x0
                      have hyn : y < out.length := by omega
                      have hyu : y ≠ u := by omega
                      have hget := curV_get (r := r) (out := out) (d := dd) (m := m) hyu
                      rw [List.getElem?_eq_getElem hyn] at hget
                      obtain ⟨hc1, _⟩ := own_get HO.out (i := y) (u := .int .i64 out[y]) (by rw [List.getElem?_map, hget]; rfl)
                      have hcl := curV_length r out dd u m
                      obtain ⟨hc3, hc4⟩ := own_num HO.out u (by omega)
                      have hat2 : atI out (y : Int) = out[y] := by unfold atI; rw [Int.toNat_natCast, List.getD_eq_getElem?_getD, List.getElem?_eq_getElem hyn]; rfl
                      rw [hat2] at HCS
                      clear x0 x1 x2 hat2 hget
                      have hyn' : (y : Int) < g.length := by omega
                      by_cases heq : out[y] = (dd : Int) - 1
                      · have hbq : (out[y] == (dd : Int) - 1) = true := by simpa using heq
                        rw [if_pos heq] at HCS
                        have HSet : Hid (curV r out dd u (m + 1) = (curV r out dd u m).set u dd) := Lib.hid (by
                          rw [HCS.out]
                          unfold curV
                          split
                          · rw [List.set_set]
                          · rfl)
                        clear heq HCS
                        generalize out[y] = oy at *
                        generalize (curV r out dd u m)[u] = cu at *
                        go_wp2
                        go_roundw
                        case rel => exact ⟨m + 1, by go_num, by omega, Lib.hid (by rw [HSet.out]; exact own_num_set HO.out u dd), below_put hb (Nat.le_refl _)⟩
                        case measure => simp [intOf]; omega
                      · have hbq : (out[y] == (dd : Int) - 1) = false := by simpa using heq
                        rw [if_neg heq] at HCS
                        clear heq
                        generalize out[y] = oy at *
                        go_wp2
                        go_roundw
                        case rel => exact ⟨m + 1, by go_num, by omega, Lib.hid (by rw [HCS.out]; exact HO.out), hb⟩
                        case measure => simp [intOf]; omega
                    · have HE : Hid (distR g s dd out0 (u + 1) = curV r out dd u m) := Lib.hid (by rw [HSR.out, HCA.out r m HRow.out (by omega)])
                      go_wp2
                      go_roundw
                      case rel => exact ⟨u + 1, by go_num, by omega, Lib.hid (by rw [HE.out]; exact HO.out), hb⟩
                      case measure => simp [intOf]; omega
              · have HE : Hid (distR g s dd out0 u = distK g s init dd) := Lib.hid (by rw [HSt.out, show u = g.length by omega])
                go_wp2
                go_roundw
                case rel => exact ⟨dd + 1, by go_num, by omega, by omega, Lib.hid (by rw [Nat.add_sub_cancel, ← HE.out]; exact HO.out), hb⟩
                case measure => simp [intOf]; omega
          · have HE : Hid (distK g s init (dd - 1) = distF g s goal) := Lib.hid (by rw [HF.out, show dd = g.length by omega])
            go_wp2
            go_ret
            exact ⟨_, rfl, by rw [← HE.out, ← HGG.out]; exact HO.out, by rw [← HGG.out]; exact hb⟩
      · rw [hsg] at hat hscr hsc
        have HF : Hid (distF g s goal = L) := Lib.hid (by rw [distF_shut hat, HL.out])
        clear hat hsg hsc HN
        go_wp2
        go_ret
        exact ⟨_, rfl, by rw [HF.out, ← HGG.out]; exact HO.out, by rw [← HGG.out]; exact hb⟩
end Go.Proofs.YtpdjcccpohnmcaaDoor
namespace Go.Proofs.YtpdjcccpohnmcaaDoor
open Go Go.RowKit Fl

/-- The first k elements are hops. -/
def hopsTo (g : GraphD) (dist L : List Int) (k : Nat) : Prop := ∀ j, j < k → L[j]? = some (hopV g dist j)
theorem hopsTo_all {g : GraphD} {dist L : List Int} (hl : L.length = g.length) (h : hopsTo g dist L g.length) : L = hopsL g dist := by
  apply List.ext_getElem?
  intro i
  rcases Nat.lt_or_ge i g.length with hi | hi
  · rw [h i hi, hopsL_at hi]
  · rw [List.getElem?_eq_none (by omega), List.getElem?_eq_none (by simp [hopsL]; omega)]
theorem hopsTo_snoc {g : GraphD} {dist L : List Int} {k : Nat} {z : Int} (h : hopsTo g dist L k) (hk : k < L.length) (hz : z = hopV g dist k) : hopsTo g dist (L.set k z) (k + 1) := fun j hj => by
  rw [List.getElem?_set]
  by_cases e : k = j
  · subst e; simp [hk, hz]
  · rw [if_neg e]; exact h j (by omega)
theorem hopV_pos {g : GraphD} {dist : List Int} {v : Nat} (h : 0 < dist.getD v (-1)) : hopV g dist v = hopOf (rowG g v) dist (dist.getD v (-1)) := by unfold hopV; rw [if_pos h]
theorem hopV_neg {g : GraphD} {dist : List Int} {v : Nat} (h : ¬ 0 < dist.getD v (-1)) : hopV g dist v = -1 := by unfold hopV; rw [if_neg h]
theorem distF_bounds {g : GraphD} {s : List Bool} {goal : Nat} (hg : validG g = true) (hv : goal < g.length) (v : Nat) : -1 ≤ (distF g s goal).getD v (-1) ∧ (distF g s goal).getD v (-1) ≤ 24 := by
  rcases hs : atB s goal with _ | _
  · exact (distF_inv hg hv hs).low v
  · rw [distF_shut hs, List.getD_eq_getElem?_getD, List.getElem?_replicate]
    split <;> simp
set_option maxRecDepth 100000 in
set_option maxHeartbeats 4000000 in
theorem hops_c (A B : Option Addr) (c d : Nat) (g : GraphD) (s : List Bool) (goal : Nat) (w : World) (hh : RowsAt w A g) (hs : Holds w B (s.map Bo)) (hg : validG g = true) (hsl : s.length = g.length) (hgoal : goal < g.length) :
    Calls Tryd.prog 89 #[.slice A g.length c, .slice B s.length d, .int .i64 goal] w fun e w' => ∃ v, e = .returned v ∧ w'.ownsRow w.heap.size 3 1 v g.length ((hopsL g (distF g s goal)).map Iv) ∧ Below w.heap.size w w' := by
  have CD := Lib.hid (dist_c A B c d g s goal w hh hs hg hsl hgoal)
  have HH := Lib.hid hh
  have HG := Lib.hid hg
  have hl24 := validG_len hg
  have HR := Lib.hid (validG_short hg)
  have HDB := Lib.hid (distF_bounds (s := s) hg hgoal)
  have HDL := Lib.hid (distF_length g s goal)
  clear hh hs hg hsl
  generalize distF g s goal = dist at *
  go_enter Tryd.func89, Tryd.ntmps89
  go_wp2_with fail
  refine CD.out.mono ?_
  rintro e w2 ⟨vd, rfl, ownD, hb2⟩
  obtain ⟨AD, cD, rfl, hD⟩ := own_is ownD
  have HD := Lib.hid hD
  have HB2 := Lib.hid hb2
  clear CD ownD hD hb2
  go_wp2_with (refine make_any _ rfl _ _ 25 3 (.int .i64 0) 8 Tryd.underlying25 Tryd.infoIntG rfl (by decide) rfl .i64 .i64 _ _ g.length rfl rfl rfl rfl (by omega) ?_)
  intro w3 own3 hb3
  have HO3 : Hid (w3.ownsRow w2.heap.size 3 1 (.slice (some ⟨w2.heap.size, 0, none⟩) g.length g.length) g.length ((List.replicate g.length (0 : Int)).map Iv)) := Lib.hid (by rw [List.map_replicate]; exact own3)
  obtain ⟨G, hG⟩ : ∃ G, G = w2.heap.size := ⟨_, rfl⟩
  rw [← hG] at HO3 hb3 ⊢
  have HGG := Lib.hid hG
  clear own3 hG
  go_wp2
  go_loopw [9] (fun v wr => ∃ (k : Nat) (L : List Int), v = .int .i64 k ∧ k ≤ g.length ∧ L.length = g.length ∧ Hid (hopsTo g dist L k) ∧ Hid (wr.ownsRow G 3 1 (.slice (some ⟨G, 0, none⟩) g.length g.length) g.length (L.map Iv)) ∧ Below G w2 wr) (fun v _ => g.length - (intOf v).toNat)
  case atStart => exact ⟨0, _, rfl, Nat.zero_le _, by simp, Lib.hid (fun j hj => by omega), HO3, hb3⟩
  case round =>
    clear HO3 hb3
    obtain ⟨k, L, rfl, hk, hL, HN, HO, hb⟩ := hrel
    have HGw : Hid (Below w2.heap.size w2 wr) := Lib.hid (by rw [← HGG.out]; exact hb)
    by_cases hlt : k < g.length
    · obtain ⟨hc1, hc2⟩ := own_num HO.out k (by omega)
      obtain ⟨bg, og, A1, c1, rfl, e1, h1⟩ := (HH.out.keep HB2.out).one hlt
      have hbg : bg < w2.heap.size := World.block_lt_of_cell? _ _ e1
      have hrl24 := HR.out _ (List.getElem_mem hlt)
      have HXX := Lib.hid (validG_row HG.out hlt)
      have hrow : g[k] = rowG g k := by unfold rowG; rw [List.getD_eq_getElem?_getD, List.getElem?_eq_getElem hlt]; rfl
      have hkd : k < dist.length := by have := HDL.out; omega
      have hgd : dist.getD k (-1) = dist[k] := by rw [List.getD_eq_getElem?_getD, List.getElem?_eq_getElem hkd]; rfl
      have hdb := HDB.out k
      have HPos := Lib.hid (fun h => hopV_pos (g := g) (dist := dist) (v := k) h)
      have HNeg := Lib.hid (fun h => hopV_neg (g := g) (dist := dist) (v := k) h)
      rw [hgd] at hdb HPos HNeg
      rw [← hrow] at HPos
      obtain ⟨bd, od, rfl, ed⟩ := HD.out.iv hkd
      have hbd : bd < w2.heap.size := World.block_lt_of_cell? _ _ ed
      have H1 := Lib.hid h1
      have HOS := Lib.hid (own_num_set HO.out k (-1))
      have hbS := below_put (i := k) (v := .int .i64 (-1)) hb (Nat.le_refl _)
      have HE1 : Hid (∀ W, Below G w2 W → W.cell? ⟨bg, og + k, none⟩ = some (.slice A1 g[k].length c1)) := Lib.hid (fun W hW => (hW.cell (p := ⟨bg, og + k, none⟩) (by have := HGG.out; show bg < G; omega)).trans e1)
      have HED : Hid (∀ W, Below G w2 W → W.cell? ⟨bd, od + k, none⟩ = some (.int .i64 dist[k])) := Lib.hid (fun W hW => (hW.cell (p := ⟨bd, od + k, none⟩) (by have := HGG.out; show bd < G; omega)).trans ed)
      have e1S := HE1.out _ hbS
      clear hgd h1 hrow ed e1 HO hb HGw
      generalize g[k] = r at *
      generalize hdk : dist[k] = dk at *
      clear hdk
      go_wp2
      clear hc1 hc2 e1S
      generalize wr.setCell ⟨G, k, none⟩ (.int .i64 (-1)) = ws at *
      go_loopw [10] (fun v wr => ∃ (m : Nat) (z : Int), v = .int .i64 z ∧ Hid (z + 1 = (m : Int)) ∧ m ≤ r.length ∧ (0 < dk ∨ m = r.length) ∧ -1 ≤ z ∧ z ≤ 24 ∧ Hid (wr.ownsRow G 3 1 (.slice (some ⟨G, 0, none⟩) g.length g.length) g.length ((L.set k (hopOf (r.drop m) dist dk)).map Iv)) ∧ Below G w2 wr) (fun v _ => (intOf v + 1).toNat)
      case atStart => exact ⟨r.length, _, rfl, Lib.hid (by omega), Nat.le_refl _, .inr rfl, by omega, by omega, Lib.hid (by rw [hopOf_end (Nat.le_refl _)]; exact HOS.out), hbS⟩
      case round =>
        clear HOS hbS
        obtain ⟨m, z, rfl, HZ, hm, hor, hz1, hz2, HO, hb⟩ := hrel
        have e1 := HE1.out _ hb
        have ed := HED.out _ hb
        by_cases hz : 0 ≤ z ∧ 0 < dk
        · obtain ⟨hz0, hdp⟩ := hz
          obtain ⟨i, rfl⟩ := Int.eq_ofNat_of_zero_le hz0
          obtain rfl : m = i + 1 := by have := HZ.out; omega
          have hil : i < r.length := by omega
          obtain ⟨br, or_, rfl, e2⟩ := H1.out.iv hil
          have hbr : br < w2.heap.size := World.block_lt_of_cell? _ _ e2
          have e2r : wr.cell? ⟨br, or_ + i, none⟩ = some (.int .i64 r[i]) := (hb.cell (p := ⟨br, or_ + i, none⟩) (by have := HGG.out; show br < G; omega)).trans e2
          obtain ⟨x0, x1, x2⟩ := HXX.out r[i] (List.getElem_mem hil)
          have HHS := Lib.hid (hopOf_step (dist := dist) (d := dk) hil)
          clear e2
          generalize r[i] = x at *
          obtain ⟨y, rfl⟩ := Int.eq_ofNat_of_zero_le x0
          have hyd : y < dist.length := by have := HDL.out; omega
          obtain ⟨bd2, od2, hBeq, ey⟩ := HD.out.iv hyd
          injection hBeq with hBeq
          injection hBeq with hB1 hB2
          subst hB1 hB2
          have eyr : wr.cell? ⟨bd, od + y, none⟩ = some (.int .i64 dist[y]) := (hb.cell (p := ⟨bd, od + y, none⟩) (by have := HGG.out; show bd < G; omega)).trans ey
          have hat2 : atI dist (y : Int) = dist[y] := by unfold atI; rw [Int.toNat_natCast, List.getD_eq_getElem?_getD, List.getElem?_eq_getElem hyd]; rfl
          rw [hat2] at HHS
          have hcl : (L.set k (hopOf (r.drop (i + 1)) dist dk)).length = g.length := by simpa using hL
          obtain ⟨cu, hc3, hc4⟩ : ∃ cu, wr.cell? ⟨G, k, none⟩ = some (.int .i64 cu) ∧ wr.frozen? ⟨G, k, none⟩ = false := ⟨_, own_num HO.out k (by omega)⟩
          have hdp' : decide (0 < dk) = true := by simpa using hdp
          have hw1 : IntKind.i64.wrap (dk - 1) = dk - 1 := IntWalk.i64_in _ (by omega)
          have hyn : y < g.length := by omega
          clear ey hat2 x0 x1 x2
          by_cases heq : dist[y] = dk - 1
          · have hbq : (dist[y] == dk - 1) = true := by simpa using heq
            replace HHS := HHS.out
            have hts : ∀ q, Hid (((wr.drewN q).setCell ⟨G, k, none⟩ (.int .i64 y)).ownsRow G 3 1 (.slice (some ⟨G, 0, none⟩) g.length g.length) g.length ((L.set k (hopOf (r.drop i) dist dk)).map Iv)) := fun q => Lib.hid (by
              have h := own_num_set (ownsRow_below HO.out (below_drewN (Below.refl _ wr) q)) k (y : Int)
              rw [List.set_set] at h
              rw [HHS, if_pos heq]; exact h)
            have HTS := Lib.hid hts
            clear heq hts HHS
            generalize dist[y] = dy at *
            go_wp2
            go_quiet (fail)
            go_wp2
            go_roundw
            case rel => exact ⟨i, (i : Int) - 1, by go_num, Lib.hid (by omega), by omega, .inl hdp, by omega, by omega, HTS.out _, below_put (below_drewN hb _) (Nat.le_refl _)⟩
            case measure => simp [intOf]
          · have hbq : (dist[y] == dk - 1) = false := by simpa using heq
            rw [if_neg heq] at HHS
            have hts : ∀ q, Hid ((wr.drewN q).ownsRow G 3 1 (.slice (some ⟨G, 0, none⟩) g.length g.length) g.length ((L.set k (hopOf (r.drop i) dist dk)).map Iv)) := fun q => Lib.hid (by
              rw [HHS.out]; exact ownsRow_below HO.out (below_drewN (Below.refl _ wr) q))
            have HTS := Lib.hid hts
            clear heq hts HHS
            generalize dist[y] = dy at *
            go_wp2
            go_quiet (fail)
            go_wp2
            go_roundw
            case rel => exact ⟨i, (i : Int) - 1, by go_num, Lib.hid (by omega), by omega, .inl hdp, by omega, by omega, HTS.out _, below_drewN hb _⟩
            case measure => simp [intOf]
        · have HV : Hid (hopOf (r.drop m) dist dk = hopV g dist k) := Lib.hid (by
            by_cases hp : 0 < dk
            · have hz' : z = -1 := by omega
              obtain rfl : m = 0 := by have := HZ.out; omega
              rw [HPos.out hp]; rfl
            · rw [HNeg.out (by omega)]
              exact hopOf_end (by omega))
          have hcase : decide (0 ≤ z) = false ∨ decide (0 ≤ z) = true ∧ decide (0 < dk) = false := by simp; omega
          clear hor
          rcases hcase with hd | ⟨hd1, hd2⟩
          all_goals
            go_wp2
            go_roundw
            case rel => exact ⟨k + 1, L.set k (hopV g dist k), by go_num, by omega, by simpa using hL, Lib.hid (hopsTo_snoc HN.out (by omega) rfl), Lib.hid (by rw [← HV.out]; exact HO.out), hb⟩
            case measure => simp [intOf]; omega
    · have HE : Hid (L = hopsL g dist) := Lib.hid (hopsTo_all hL (by rw [show g.length = k by omega]; exact HN.out))
      go_wp2
      go_ret
      exact ⟨_, rfl, by rw [← HE.out]; exact ownsRow_base HO.out (by rw [HGG.out]; exact HB2.out.size), HB2.out.trans (HGw.out.mono HB2.out.size)⟩
end Go.Proofs.YtpdjcccpohnmcaaDoor
namespace Go.Proofs.YtpdjcccpohnmcaaDoor
open Go Go.RowKit Fl

theorem own_one {w : World} {base F : Nat} {e : TypeId} {u : Value} (h : w.heap[F]? = some (.cells #[u] e (0, 0))) (hb : base ≤ F) : w.ownsRow base e 1 (.slice (some ⟨F, 0, none⟩) 1 1) 1 [u] :=
  ⟨rfl, .inr ⟨F, 1, _, rfl, hb, h, Nat.le_refl _, by unfold maxLen; omega, rfl, rfl⟩⟩
theorem pathF_tail {h : List Int} {f : Nat} {v y : Int} (e : atI h v = y) : (pathF h (f + 1) v).tail = y :: (pathF h f y).tail := by
  unfold pathF
  rw [e]
  cases f <;> rfl
theorem hopsL_atI {g : GraphD} {dist : List Int} {v : Nat} (hv : v < g.length) : atI (hopsL g dist) v = hopV g dist v := by
  unfold atI; rw [Int.toNat_natCast, List.getD_eq_getElem?_getD, hopsL_at hv]; rfl
set_option maxRecDepth 100000 in
set_option maxHeartbeats 4000000 in
theorem first_c (A B : Option Addr) (c d : Nat) (g : GraphD) (s : List Bool) (a goal : Nat) (w : World) (hh : RowsAt w A g) (hs : Holds w B (s.map Bo)) (hg : validG g = true) (hsl : s.length = g.length) (ha : a < g.length) (hgoal : goal < g.length) :
    Calls Tryd.prog 82 #[.slice A g.length c, .slice B s.length d, .int .i64 a, .int .i64 goal] w fun e w' => ∃ v, e = .returned v ∧ w'.ownsRow w.heap.size 3 1 v (firstF g s a goal).length ((firstF g s a goal).map Iv) ∧ Below w.heap.size w w' := by
  have CD := Lib.hid (dist_c A B c d g s goal w hh hs hg hsl hgoal)
  have CH := Lib.hid (fun W (hW : Below w.heap.size w W) => hops_c A B c d g s goal W (hh.keep hW) (hs.keep hW) hg hsl hgoal)
  have HG := Lib.hid hg
  have HSht := Lib.hid (fun h : atB s goal = true => distF_shut (g := g) h)
  have HInv := Lib.hid (fun h : atB s goal = false => distF_inv hg hgoal h)
  have HDL := Lib.hid (distF_length g s goal)
  have HF : Hid (firstF g s a goal = if (distF g s goal).getD a (-1) < 0 then [] else pathF (hopsL g (distF g s goal)) ((distF g s goal).getD a (-1)).toNat a) := Lib.hid rfl
  clear hh hs hg hsl
  generalize firstF g s a goal = res at *
  generalize distF g s goal = dist at *
  go_enter Tryd.func82, Tryd.ntmps82
  go_wp2_with fail
  refine CD.out.mono ?_
  rintro e w2 ⟨vd, rfl, ownD, hb2⟩
  obtain ⟨AD, cD, rfl, hD⟩ := own_is ownD
  have had : a < dist.length := by have := HDL.out; omega
  obtain ⟨bd, od, rfl, ed⟩ := hD.iv had
  have hgd : dist.getD a (-1) = dist[a] := by rw [List.getD_eq_getElem?_getD, List.getElem?_eq_getElem had]; rfl
  rw [hgd] at HF
  have HGD := Lib.hid hgd
  have HB2 := Lib.hid hb2
  clear CD ownD hD hb2 hgd
  by_cases hneg : dist[a] < 0
  · have hdec : decide (dist[a] < 0) = true := by simpa using hneg
    rw [if_pos hneg] at HF
    clear hneg HGD
    generalize dist[a] = da at *
    go_wp2
    go_ret
    exact ⟨_, rfl, by rw [HF.out]; exact World.ownsRow_nil _ _ _ _, HB2.out⟩
  · have hdec : decide (dist[a] < 0) = false := by simpa using hneg
    have hso : atB s goal = false := by
      rcases h : atB s goal with _ | _
      · rfl
      · exfalso
        apply hneg
        rw [← HGD.out, HSht.out h, List.getD_eq_getElem?_getD, List.getElem?_replicate]
        split <;> simp
    have HI := Lib.hid (HInv.out hso)
    have HLow := Lib.hid (HI.out.low a)
    rw [if_neg hneg] at HF
    rw [HGD.out] at HLow
    obtain ⟨f0, hf0⟩ := Int.eq_ofNat_of_zero_le (show 0 ≤ dist[a] by omega)
    have hf24 : f0 ≤ 24 := by have := HLow.out; omega
    have HF0 : Hid (dist.getD a (-1) = (f0 : Int)) := Lib.hid (HGD.out.trans hf0)
    rw [hf0, Int.toNat_natCast] at HF
    rw [hf0] at ed hdec
    have HCH := Lib.hid (CH.out w2 HB2.out)
    clear hneg hf0 HGD HLow hso HInv HSht CH
    go_wp2_with fail
    refine HCH.out.mono ?_
    rintro e w3 ⟨vh, rfl, ownH, hb3⟩
    obtain ⟨AH, cH, rfl, hH⟩ := own_is ownH
    have HH := Lib.hid hH
    have HB3 := Lib.hid (HB2.out.trans (hb3.mono HB2.out.size))
    clear ownH hH hb3 HCH ed hdec
    go_wp2
    have own4 : (w3.alloc (.cells #[.int .i64 a] 3)).ownsRow w3.heap.size 3 1 (.slice (some ⟨w3.heap.size, 0, none⟩) 1 1) ([(a : Int)]).length (([(a : Int)]).map Iv) := own_one (heap_alloc_new w3 _) (Nat.le_refl _)
    have hb4 : Below w3.heap.size w3 (w3.alloc (.cells #[.int .i64 a] 3)) := (Below.refl _ _).alloc (Nat.le_refl _) _
    have HO4 := Lib.hid own4
    have HP4 : Hid ([(a : Int)] ++ (pathF (hopsL g dist) f0 a).tail = res) := Lib.hid (by rw [HF.out]; cases f0 <;> rfl)
    clear own4 HF
    go_loopw [2, 10] (fun u v wr => ∃ (cur f : Nat) (out : List Int), u = .int .i64 cur ∧ cur < g.length ∧ Hid (dist.getD cur (-1) = (f : Int)) ∧ f ≤ 24 ∧ out.length ≤ 25 - f ∧ Hid (out ++ (pathF (hopsL g dist) f cur).tail = res) ∧ Hid (wr.ownsRow w3.heap.size 3 1 v out.length (out.map Iv)) ∧ Below w3.heap.size w3 wr) (fun u _ _ => (dist.getD (intOf u).toNat (-1)).toNat)
    case atStart => exact ⟨a, f0, _, rfl, ha, HF0, hf24, by simp; omega, HP4, HO4, hb4⟩
    case round =>
      clear HO4 HP4 hb4 HF0 hf24
      obtain ⟨cur, f, out, rfl, hcur, HFc, hf24, hol, HP, HO, hb⟩ := hrel
      by_cases hcg : cur = goal
      · have hne : ((cur : Int) != (goal : Int)) = false := by simp [hcg]
        have hf0 : f = 0 := by
          have h := (HI.out.goal cur hcur).2 hcg
          rw [HFc.out] at h
          omega
        have HR : Hid (out = res) := Lib.hid (by
          have h := HP.out
          rw [hf0] at h
          simpa [pathF] using h)
        clear HP
        go_wp2
        go_ret
        exact ⟨_, rfl, by rw [← HR.out]; exact ownsRow_base HO.out HB3.out.size, HB3.out.trans (hb.mono HB3.out.size)⟩
      · have hne : ((cur : Int) != (goal : Int)) = true := by rw [bne_iff_ne]; omega
        have hpos : 0 < dist.getD cur (-1) := by
          rw [HFc.out]
          rcases Nat.eq_zero_or_pos f with h | h
          · exfalso
            apply hcg
            apply (HI.out.goal cur hcur).1
            rw [HFc.out, h]; rfl
          · omega
        obtain ⟨y, hy1, hy2, hy3⟩ := hop_near HI.out HG.out hcur hpos
        rw [HFc.out] at hpos hy3
        obtain ⟨f', rfl⟩ : ∃ f', f = f' + 1 := ⟨f - 1, by omega⟩
        have HFy : Hid (dist.getD y (-1) = (f' : Int)) := Lib.hid (by rw [hy3]; omega)
        have HP2 : Hid ((out ++ [(y : Int)]) ++ (pathF (hopsL g dist) f' y).tail = res) := Lib.hid (by
          rw [← HP.out, pathF_tail (y := (y : Int)) (by rw [hopsL_atI hcur, hy1])]
          simp)
        have hhl : cur < (hopsL g dist).length := by simp [hopsL]; exact hcur
        obtain ⟨bh, oh, rfl, eh⟩ := HH.out.iv hhl
        have hbh : bh < w3.heap.size := World.block_lt_of_cell? _ _ eh
        have hhy : (hopsL g dist)[cur] = (y : Int) := by
          have h := hopsL_at (dist := dist) hcur
          rw [List.getElem?_eq_getElem hhl, hy1] at h
          injection h
        rw [hhy] at eh
        have ehr : wr.cell? ⟨bh, oh + cur, none⟩ = some (.int .i64 y) := (hb.cell (p := ⟨bh, oh + cur, none⟩) hbh).trans eh
        have base := own_base HO.out
        have hsz := hb.size
        have HMs : Hid (dist.getD cur (-1) = ((f' + 1 : Nat) : Int)) := Lib.hid HFc.out
        clear hcg hpos hy1 hy3 hhy eh HP HFc
        go_wp2_with (at_builtin; refine app_int _ rfl _ _ rfl w3.heap.size _ _ _ rfl (HO.out.alloc _) wr.heap.size y rfl (by simp [go_sem]) (by omega) (by simp; omega) ?_)
        intro v8 w8 own8 hg8
        have hb8 : Below w3.heap.size w3 w8 := (hb.alloc hb.size _).grown hg8 (by simp; omega) (fun k hk => base k hk)
        have HO8 : Hid (w8.ownsRow w3.heap.size 3 1 v8 (out ++ [(y : Int)]).length ((out ++ [(y : Int)]).map Iv)) := Lib.hid (by simpa using own8)
        clear own8 hg8 base HO
        go_wp2
        go_roundw
        case rel => exact ⟨y, f', _, rfl, hy2, HFy, by omega, by simp; omega, HP2, HO8, hb8⟩
        case measure => simp only [intOf, Int.toNat_natCast]; rw [HFy.out, HMs.out]; omega
end Go.Proofs.YtpdjcccpohnmcaaDoor
namespace Go.Proofs.YtpdjcccpohnmcaaDoor
open Go Go.RowKit Fl

theorem bestK_succ {row dist : List Int} {k : Nat} (h : k < row.length) : bestK row dist (k + 1) = if 0 ≤ atI dist row[k] ∧ (bestK row dist k < 0 ∨ atI dist row[k] < atI dist (bestK row dist k)) then row[k] else bestK row dist k := by
  have e : row.getD k 0 = row[k] := by rw [List.getD_eq_getElem?_getD, List.getElem?_eq_getElem h]; rfl
  rw [bestK]
  simp only [e]
theorem atI_nat {l : List Int} {y : Nat} (h : y < l.length) : atI l (y : Int) = l[y] := by unfold atI; rw [Int.toNat_natCast, List.getD_eq_getElem?_getD, List.getElem?_eq_getElem h]; rfl
theorem Holds.news {w : World} {b o : Nat} {xs : List Value} (h : Holds w (some ⟨b, o, none⟩) xs) {m : Nat} : ∀ j u, (xs.take m)[j]? = some u → w.cell? ((⟨b, o, none⟩ : Addr).add j) = some u := fun j u hu => by
  have hadd : (⟨b, o, none⟩ : Addr).add j = ⟨b, o + j, none⟩ := by unfold Addr.add; split <;> simp_all
  rw [List.getElem?_take] at hu
  split at hu
  · obtain ⟨hj, hu⟩ := List.getElem?_eq_some_iff.1 hu
    obtain ⟨b', o', hA, _, hc⟩ := h.at_ (by omega)
    injection hA with hA
    injection hA with h1 h2
    subst h1 h2
    rw [hadd, hc j hj, hu]
  · cases hu
set_option maxRecDepth 100000 in
set_option maxHeartbeats 4000000 in
theorem through_c (A B : Option Addr) (c d : Nat) (g : GraphD) (s : List Bool) (v : Nat) (w : World) (hh : RowsAt w A g) (hs : Holds w B (s.map Bo)) (hg : validG g = true) (hsl : s.length = g.length) (hv : v < g.length) :
    Calls Tryd.prog 70 #[.slice A g.length c, .slice B s.length d, .int .i64 v] w fun e w' => ∃ u, e = .returned u ∧ w'.ownsRow w.heap.size 3 1 u (thrF g s v).length ((thrF g s v).map Iv) ∧ Below w.heap.size w w' := by
  have hvs : v < s.length := by omega
  obtain ⟨bs, os, rfl, hsc⟩ := hs.bo hvs
  have hat : atB s v = s[v] := by unfold atB; rw [List.getD_eq_getElem?_getD, List.getElem?_eq_getElem hvs]; rfl
  have CD := Lib.hid (dist_c A (some ⟨bs, os, none⟩) c d g s v w hh hs hg hsl hv)
  have CF := Lib.hid (fun W a (hW : Below w.heap.size w W) ha => first_c A (some ⟨bs, os, none⟩) c d g s a v W (hh.keep hW) (hs.keep hW) hg hsl ha hv)
  have HBK := Lib.hid (bestK_ok (dist := distF g s v) hg hv)
  have HRow := Lib.hid (rowOk_row hg hv)
  have HDL := Lib.hid (distF_length g s v)
  have HTrue : Hid (atB s v = true → thrF g s v = []) := Lib.hid (fun h => by unfold thrF; rw [if_pos h])
  have HT : Hid (atB s v = false → thrF g s v = if bestK (rowG g v) (distF g s v) (rowG g v).length < 0 then [] else (v : Int) :: (firstF g s (bestK (rowG g v) (distF g s v) (rowG g v).length).toNat v).dropLast) := Lib.hid (fun h => by unfold thrF; rw [h]; rfl)
  have HFd : Hid (∀ a, firstF g s a v = if (distF g s v).getD a (-1) < 0 then [] else pathF (hopsL g (distF g s v)) ((distF g s v).getD a (-1)).toNat a) := Lib.hid (fun a => rfl)
  have hFsh := fun a => firstF_short (s := s) (a := a) hg hv
  have HFS := Lib.hid hFsh
  have HH := Lib.hid hh
  have HR24 := Lib.hid (validG_short hg)
  clear hh hs hg hsl hFsh
  rcases hsv : s[v] with _ | _
  · rw [hsv] at hat hsc
    replace HT := Lib.hid (HT.out hat)
    clear HTrue hat
    generalize thrF g s v = res at *
    generalize distF g s v = dist at *
    go_enter Tryd.func70, Tryd.ntmps70
    go_wp2_with fail
    refine CD.out.mono ?_
    rintro e w2 ⟨vd, rfl, ownD, hb2⟩
    obtain ⟨AD, cD, rfl, hD⟩ := own_is ownD
    have HD := Lib.hid hD
    have HB2 := Lib.hid hb2
    obtain ⟨bg, og, A1, c1, rfl, e1, h1⟩ := (HH.out.keep HB2.out).one hv
    have hrow : rowG g v = g[v] := rowG_at hv
    have hrl24 := HR24.out _ (List.getElem_mem hv)
    rw [hrow] at HBK HRow HT
    have H1 := Lib.hid h1
    clear CD ownD hD hb2 hsc hsv h1 hrow
    generalize g[v] = r at *
    go_wp2
    go_loopw [8, 9] (fun u i wr => ∃ (k : Nat) (z : Int), i = .int .i64 k ∧ k ≤ r.length ∧ u = .int .i64 z ∧ Hid (z = bestK r dist k) ∧ Hid (∃ n, wr = w2.drewN n)) (fun _ i _ => r.length - (intOf i).toNat)
    case atStart => exact ⟨0, -1, rfl, Nat.zero_le _, rfl, Lib.hid rfl, Lib.hid ⟨0, rfl⟩⟩
    case round =>
      obtain ⟨k, z, rfl, hk, rfl, HZ, HW⟩ := hrel
      have hbk := HBK.out k hk
      rw [← HZ.out] at hbk
      obtain ⟨n0, hn0⟩ := HW.out
      subst hn0
      by_cases hlt : k < r.length
      · obtain ⟨br, or_, rfl, e2⟩ := H1.out.iv hlt
        have HS := Lib.hid (bestK_succ (dist := dist) hlt)
        rw [← HZ.out] at HS
        obtain ⟨x0, x1, x2⟩ := HRow.out r[k] (List.getElem_mem hlt)
        generalize r[k] = x at *
        obtain ⟨y, rfl⟩ := Int.eq_ofNat_of_zero_le x0
        have hyn : y < g.length := by omega
        have hyd : y < dist.length := by have := HDL.out; omega
        obtain ⟨bd, od, rfl, ed⟩ := HD.out.iv hyd
        rw [atI_nat hyd] at HS
        clear x0 x1 x2 HZ
        by_cases hd0 : 0 ≤ dist[y]
        · have hdd : decide (0 ≤ dist[y]) = true := by simpa using hd0
          rcases hbk with rfl | ⟨hz0, hz1, hz2⟩
          · have HS2 : Hid ((y : Int) = bestK r dist (k + 1)) := Lib.hid (by rw [HS.out, if_pos ⟨hd0, .inl (by omega)⟩])
            clear hd0 HS
            generalize dist[y] = dy at *
            go_wp2
            go_quiet (fail)
            go_wp2
            go_roundw
            case rel => exact ⟨k + 1, y, by go_num, by omega, rfl, HS2, Lib.hid ⟨_, rfl⟩⟩
            case measure => simp [intOf]; omega
          · obtain ⟨b, rfl⟩ := Int.eq_ofNat_of_zero_le hz0
            have hbn : b < g.length := by omega
            have hbd : b < dist.length := by have := HDL.out; omega
            obtain ⟨bd2, od2, hBeq, eb⟩ := HD.out.iv hbd
            injection hBeq with hBeq
            injection hBeq with hB1 hB2
            subst hB1 hB2
            rw [atI_nat hbd] at HS
            have hbneg : decide ((b : Int) < 0) = false := by simp
            clear hz0 hz1 hz2
            by_cases hlt2 : dist[y] < dist[b]
            · have HS2 : Hid ((y : Int) = bestK r dist (k + 1)) := Lib.hid (by rw [HS.out, if_pos ⟨hd0, .inr hlt2⟩])
              have hdl : decide (dist[y] < dist[b]) = true := by simpa using hlt2
              clear hd0 HS hlt2
              generalize dist[y] = dy at *
              generalize dist[b] = db at *
              go_wp2
              go_quiet (fail)
              go_wp2
              go_roundw
              case rel => exact ⟨k + 1, y, by go_num, by omega, rfl, HS2, Lib.hid ⟨_, rfl⟩⟩
              case measure => simp [intOf]; omega
            · have HS2 : Hid ((b : Int) = bestK r dist (k + 1)) := Lib.hid (by rw [HS.out, if_neg]; rintro ⟨_, h | h⟩ <;> omega)
              have hdl : decide (dist[y] < dist[b]) = false := by simpa using hlt2
              clear hd0 HS hlt2
              generalize dist[y] = dy at *
              generalize dist[b] = db at *
              go_wp2
              go_quiet (fail)
              go_wp2
              go_roundw
              case rel => exact ⟨k + 1, b, by go_num, by omega, rfl, HS2, Lib.hid ⟨_, rfl⟩⟩
              case measure => simp [intOf]; omega
        · have hdd : decide (0 ≤ dist[y]) = false := by simpa using hd0
          have HS2 : Hid (z = bestK r dist (k + 1)) := Lib.hid (by rw [HS.out, if_neg]; rintro ⟨h, _⟩; omega)
          clear hd0 HS hbk
          generalize dist[y] = dy at *
          go_wp2
          go_quiet (fail)
          go_wp2
          go_roundw
          case rel => exact ⟨k + 1, z, by go_num, by omega, rfl, HS2, Lib.hid ⟨_, rfl⟩⟩
          case measure => simp [intOf]; omega
      · obtain rfl : k = r.length := by omega
        rw [← HZ.out] at HT
        have HBd := Lib.hid (below_drewN HB2.out n0)
        rcases hbk with rfl | ⟨hz0, hz1, hz2⟩
        · have HR : Hid (res = []) := Lib.hid (by rw [HT.out]; rfl)
          clear HT HZ
          go_wp2
          go_ret
          exact ⟨_, rfl, by rw [HR.out]; exact World.ownsRow_nil _ _ _ _, HBd.out⟩
        · obtain ⟨b, rfl⟩ := Int.eq_ofNat_of_zero_le hz0
          have hbn : b < g.length := by omega
          have hbd : b < dist.length := by have := HDL.out; omega
          rw [atI_nat hbd] at hz2
          have hneg : decide ((b : Int) < 0) = false := by simp
          have HR : Hid (res = (v : Int) :: (firstF g s b v).dropLast) := Lib.hid (by rw [HT.out, if_neg (by omega)]; rfl)
          have hpl : 0 < (firstF g s b v).length := by
            rw [HFd.out b, List.getD_eq_getElem?_getD, List.getElem?_eq_getElem hbd, if_neg (by simpa using hz2), pathF_length]
            omega
          have hpl2 := HFS.out b
          have HC := Lib.hid (CF.out (w2.drewN n0) b HBd.out hbn)
          clear HT HZ CF hz0 hz1 hz2 HFS HFd
          generalize firstF g s b v = p at *
          obtain ⟨m, hm⟩ : ∃ m, p.length = m + 1 := ⟨p.length - 1, by omega⟩
          rw [hm] at HC
          go_wp2_with fail
          refine HC.out.mono ?_
          rintro e w3 ⟨vp, rfl, ownP, hb3⟩
          obtain ⟨gp, cp, rfl, hgp, hcp⟩ := own_at ownP (by omega)
          have hP := ownsRow_holds ownP
          have HP := Lib.hid hP
          have HB3 := Lib.hid (HBd.out.trans (hb3.mono HBd.out.size))
          clear HC ownP hb3 hP hpl
          have own4 : (w3.alloc (.cells #[.int .i64 v] 3)).ownsRow w3.heap.size 3 1 (.slice (some ⟨w3.heap.size, 0, none⟩) 1 1) 1 [Iv v] := own_one (heap_alloc_new w3 _) (Nat.le_refl _)
          have HO4 := Lib.hid own4
          have HB4 : Hid (Below w3.heap.size w3 (w3.alloc (.cells #[.int .i64 v] 3))) := Lib.hid ((Below.refl _ _).alloc (Nat.le_refl _) _)
          have HDr : Hid (p.dropLast.length = m ∧ (p.map Iv).take m = p.dropLast.map Iv) := Lib.hid ⟨by simp [hm], by rw [← List.map_take, List.dropLast_eq_take, hm]; rfl⟩
          have hm24 : m ≤ 24 := by omega
          clear own4
          obtain ⟨i0, hi, hz0, hz1, hz2⟩ := info_parts Tryd.infoIntG
          go_wp2_with (at_builtin; refine wpList_append_own _ rfl _ _ 25 rfl w3.heap.size 3 i0 (.int .i64 0) 1 8 Tryd.underlying25 hi hz0 hz1 hz2 rfl (by decide) _ _ _ rfl HO4.out ⟨gp, 0, none⟩ m cp ((p.map Iv).take m) rfl ?c1 ?c2 ?c3 ?c4 ?c5 ?c6 ?_)
          case c1 => simp; omega
          case c2 => exact (HP.out.keep HB4.out).news
          case c3 => intro u hu; obtain ⟨q, _, rfl⟩ := List.mem_map.1 (List.mem_of_mem_take hu); rfl
          case c4 => unfold maxLen; omega
          case c5 => omega
          case c6 => simp
          intro v8 w8 own8 hg8 _
          have hb8 : Below w3.heap.size w3 w8 := HB4.out.grown hg8 (by simp) (fun k hk => own_base HO4.out k hk)
          have HO8 : Hid (w8.ownsRow w3.heap.size 3 1 v8 res.length (res.map Iv)) := Lib.hid (by
            rw [HR.out]
            rw [HDr.out.2] at own8
            have e : ((v : Int) :: p.dropLast).length = 1 + m := by rw [List.length_cons, HDr.out.1]; omega
            rw [e]
            exact own8)
          clear own8 hg8
          go_wp2
          go_ret
          exact ⟨_, rfl, ownsRow_base HO8.out HB3.out.size, HB3.out.trans (hb8.mono HB3.out.size)⟩
  · rw [hsv] at hat hsc
    have HR := Lib.hid (HTrue.out hat)
    clear HT HTrue hat CD CF
    go_enter Tryd.func70, Tryd.ntmps70
    go_wp2
    go_ret
    exact ⟨_, rfl, by rw [HR.out]; exact World.ownsRow_nil _ _ _ _, Below.refl _ _⟩
end Go.Proofs.YtpdjcccpohnmcaaDoor
namespace Go.Proofs.YtpdjcccpohnmcaaDoor
open Go Go.RowKit Fl

theorem girK_succ (g : GraphD) (s : List Bool) (k : Nat) : girK g s (k + 1) = if 0 < (thrF g s k).length ∧ ((girK g s k).length = 0 ∨ (thrF g s k).length < (girK g s k).length) then thrF g s k else girK g s k := rfl
def GirthPost (w : World) (l : List Int) (e : Ending) (w' : World) : Prop := ∃ v, e = .returned (.tuple #[.int .i64 l.length, v, .int .i64 0]) ∧ w'.ownsRow w.heap.size 3 1 v l.length (l.map Iv) ∧ Below w.heap.size w w'
set_option maxRecDepth 100000 in
set_option maxHeartbeats 4000000 in
theorem girth_c (A B : Option Addr) (c d : Nat) (g : GraphD) (s : List Bool) (w : World) (hh : RowsAt w A g) (hs : Holds w B (s.map Bo)) (hg : validG g = true) (hsl : s.length = g.length) :
    Calls Tryd.prog 60 #[.slice A g.length c, .slice B s.length d] w (GirthPost w (girF g s)) := by
  have hl24 := validG_len hg
  have hr24 := validG_short hg
  have CC := Lib.hid (refCheck_c A B c d s.length g w hh (by omega) (fun r hr => by have := hr24 r hr; omega))
  rw [show chkG g s.length = 0 by unfold chkG; rw [hg, hsl]; simp] at CC
  have CT := Lib.hid (fun W v (hW : Below w.heap.size w W) hv => through_c A B c d g s v W (hh.keep hW) (hs.keep hW) hg hsl hv)
  have HSh := Lib.hid (fun k hk => girK_short (s := s) hg k hk)
  have HTh := Lib.hid (fun v hv => thrF_short (s := s) (v := v) hg hv)
  have HF : Hid (girF g s = girK g s g.length) := Lib.hid rfl
  clear hh hs hg hsl hr24
  generalize girF g s = res at *
  go_enter Tryd.func60, Tryd.ntmps60
  go_wp2_with fail
  refine CC.out.mono ?_
  rintro e w1 ⟨rfl, rfl⟩
  go_wp2
  go_loopw [8, 9] (fun u i wr => ∃ (k : Nat), i = .int .i64 k ∧ k ≤ g.length ∧ Hid (wr.ownsRow w.heap.size 3 1 u (girK g s k).length ((girK g s k).map Iv)) ∧ Below w.heap.size w wr) (fun _ i _ => g.length - (intOf i).toNat)
  case atStart => exact ⟨0, rfl, Nat.zero_le _, Lib.hid (World.ownsRow_nil _ _ _ _), Below.refl _ _⟩
  case round =>
    obtain ⟨k, rfl, hk, HO, hb⟩ := hrel
    have hbl := HSh.out k hk
    by_cases hlt : k < g.length
    · have HS := Lib.hid (girK_succ g s k)
      have htl := HTh.out k hlt
      have HC := Lib.hid (CT.out wr k hb hlt)
      have hsz := hb.size
      generalize thrF g s k = t at *
      generalize hbo : girK g s k = bo at *
      clear hbo
      obtain ⟨AB, cB, rfl, _⟩ := own_is HO.out
      go_wp2_with fail
      refine HC.out.mono ?_
      rintro e w2 ⟨vt, rfl, ownT, hb2⟩
      obtain ⟨AT, cT, rfl, _⟩ := own_is ownT
      have HT := Lib.hid ownT
      have HB2 := Lib.hid (hb.trans (hb2.mono hsz))
      have HO2 := Lib.hid (ownsRow_below HO.out hb2)
      clear HC ownT hb2 HO hb
      by_cases hsel : 0 < t.length ∧ (bo.length = 0 ∨ t.length < bo.length)
      · rw [if_pos hsel] at HS
        have HT2 := Lib.hid (ownsRow_base HT.out hsz)
        have hcase : decide (0 < t.length) = true ∧ (((bo.length : Int) == 0) = true ∨ ((bo.length : Int) == 0) = false ∧ decide (t.length < bo.length) = true) := by
          refine ⟨by simpa using hsel.1, ?_⟩
          rcases Nat.eq_zero_or_pos bo.length with h | h
          · left; rw [h]; rfl
          · right; exact ⟨by rw [beq_eq_false_iff_ne]; omega, by have := hsel.2; simp; omega⟩
        obtain ⟨hd1, hd2⟩ := hcase
        have hpos := hsel.1
        clear hsel
        rcases hd2 with hd2 | ⟨hd2, hd3⟩
        all_goals
          go_wp2
          go_roundw
          case rel => exact ⟨k + 1, by go_num, by omega, Lib.hid (by rw [HS.out]; exact HT2.out), HB2.out⟩
          case measure => simp [intOf]; omega
      · rw [if_neg hsel] at HS
        have hcase : decide (0 < t.length) = false ∨ decide (0 < t.length) = true ∧ ((bo.length : Int) == 0) = false ∧ decide (t.length < bo.length) = false := by
          rcases Nat.eq_zero_or_pos t.length with h | h
          · left; rw [decide_eq_false_iff_not]; omega
          · right; exact ⟨by simpa using h, by rw [beq_eq_false_iff_ne]; intro e; exact hsel ⟨h, .inl (by omega)⟩, by simp; rcases Nat.lt_or_ge t.length bo.length with h2 | h2; exact absurd ⟨h, .inr h2⟩ hsel; exact h2⟩
        clear hsel
        rcases hcase with hd1 | ⟨hd1, hd2, hd3⟩
        all_goals
          go_wp2
          go_roundw
          case rel => exact ⟨k + 1, by go_num, by omega, Lib.hid (by rw [HS.out]; exact HO2.out), HB2.out⟩
          case measure => simp [intOf]; omega
    · obtain rfl : k = g.length := by omega
      rw [← HF.out] at HO hbl
      obtain ⟨AB, cB, rfl, _⟩ := own_is HO.out
      go_wp2
      go_ret3
      exact ⟨_, rfl, HO.out, hb⟩
end Go.Proofs.YtpdjcccpohnmcaaDoor
