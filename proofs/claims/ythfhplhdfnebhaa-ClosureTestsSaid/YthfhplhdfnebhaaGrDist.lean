/- Contract of the reference's Dist of layer 7: the distances of all vertices from a goal. -/
import Derived.Test.YthfhplhdfnebhaaGrApp
namespace Go.Proofs.Ythfhplhdfnebhaa
open Go Go.RowKit Fl

theorem own_num {w : World} {base n g cap : Nat} {L : List Int} (h : w.ownsRow base 3 1 (.slice (some ⟨g, 0, none⟩) n cap) n (L.map Iv)) (i : Nat) (hi : i < L.length) : w.cell? ⟨g, i, none⟩ = some (.int .i64 L[i]) ∧ w.frozen? ⟨g, i, none⟩ = false :=
  own_get h (by simp [hi])
theorem own_num_set {w : World} {base n g cap : Nat} {L : List Int} (h : w.ownsRow base 3 1 (.slice (some ⟨g, 0, none⟩) n cap) n (L.map Iv)) (i : Nat) (z : Int) : (w.setCell ⟨g, i, none⟩ (.int .i64 z)).ownsRow base 3 1 (.slice (some ⟨g, 0, none⟩) n cap) n ((L.set i z).map Iv) := by
  rw [List.map_set]; exact own_put h
theorem distK_step {g : GraphD} {s : List Bool} {out : List Int} {d : Nat} (h : 1 ≤ d) : distK g s out d = distR g s (d : Int) (distK g s out (d - 1)) g.length := by
  obtain ⟨k, rfl⟩ : ∃ k, d = k + 1 := ⟨d - 1, by omega⟩
  rw [distK_succ]; rfl
theorem distV_stay {g : GraphD} {s : List Bool} {d : Int} {out : List Int} {v : Nat} (h : atB s v = true ∨ 0 ≤ out.getD v (-1)) : distV g s d out v = out := by
  unfold distV
  rw [if_pos]
  rcases h with h | h
  · rw [h]; rfl
  · rw [decide_eq_true h, Bool.or_true]
/-- The list behind the first m elements of vertex v's row. -/
def curV (r out : List Int) (d : Int) (v m : Nat) : List Int := if (r.take m).any (fun x => decide (atI out x = d - 1)) then out.set v d else out
theorem curV_zero (r out : List Int) (d : Int) (v : Nat) : curV r out d v 0 = out := rfl
theorem curV_succ {r out : List Int} {d : Int} {v m : Nat} (h : m < r.length) : curV r out d v (m + 1) = if atI out r[m] = d - 1 then out.set v d else curV r out d v m := by
  unfold curV
  rw [List.take_succ_eq_append_getElem h, List.any_append]
  by_cases e : atI out r[m] = d - 1
  · simp [e]
  · simp [e]
theorem curV_all {g : GraphD} {s : List Bool} {d : Int} {out r : List Int} {v m : Nat} (h1 : atB s v = false) (h2 : out.getD v (-1) < 0) (hr : r = rowG g v) (hm : r.length ≤ m) : curV r out d v m = distV g s d out v := by
  unfold curV distV
  rw [List.take_of_length_le hm, ← hr, h1, if_neg (c := (false || decide (0 ≤ out.getD v (-1))) = true) (by rw [Bool.false_or, decide_eq_true_eq]; omega)]
theorem curV_length (r out : List Int) (d : Int) (v m : Nat) : (curV r out d v m).length = out.length := by unfold curV; split <;> simp
theorem curV_get {r out : List Int} {d : Int} {v m u : Nat} (h : u ≠ v) : (curV r out d v m)[u]? = out[u]? := by
  unfold curV
  split
  · rw [List.getElem?_set, if_neg (fun e => h e.symm)]
  · rfl
/-- A list of k times -1 and any further numbers. -/
def negs (L : List Int) (k : Nat) : Prop := ∀ j, j < k → L[j]? = some (-1)
theorem negs_all {L : List Int} (h : negs L L.length) : L = List.replicate L.length (-1) := by
  apply List.ext_getElem (by simp)
  intro i h1 h2
  have := h i h1
  rw [List.getElem?_eq_getElem h1] at this
  simp at this
  simpa using this
set_option maxRecDepth 100000 in
set_option maxHeartbeats 4000000 in
theorem dist_c (A B : Option Addr) (c d : Nat) (g : GraphD) (s : List Bool) (goal : Nat) (w : World) (hh : RowsAt w A g) (hs : Holds w B (s.map Bo)) (hg : validG g = true) (hsl : s.length = g.length) (hgoal : goal < g.length) :
    Calls Try.prog 59 #[.slice A g.length c, .slice B s.length d, .int .i64 goal] w fun e w' => ∃ v, e = .returned v ∧ w'.ownsRow w.heap.size 3 1 v g.length ((distF g s goal).map Iv) ∧ Below w.heap.size w w' := by
  have HH := Lib.hid hh
  have HS := Lib.hid hs
  have HG := Lib.hid hg
  have hl24 := validG_len hg
  have HR := Lib.hid (validG_short hg)
  have HSL := Lib.hid hsl
  have hsl2 : goal < s.length := by omega
  clear hh hs hg hsl
  go_enter Try.func59, Try.ntmps59
  go_wp2_with (refine make_any _ rfl _ _ 25 3 (.int .i64 0) 8 Try.underlying25 Try.infoIntG rfl (by decide) rfl .i64 .i64 _ _ g.length rfl rfl rfl rfl (by omega) ?_)
  intro w1 own1 hb1
  have hbb1 := hb1.size
  have HO1 : Hid (w1.ownsRow w.heap.size 3 1 (.slice (some ⟨w.heap.size, 0, none⟩) g.length g.length) g.length ((List.replicate g.length (0 : Int)).map Iv)) := Lib.hid (by rw [List.map_replicate]; exact own1)
  obtain ⟨G, hG⟩ : ∃ G, G = w.heap.size := ⟨_, rfl⟩
  rw [← hG] at HO1 hb1 hbb1 ⊢
  have HGG := Lib.hid hG
  clear own1 hG
  go_wp2
  go_loopw [8] (fun v wr => ∃ (k : Nat) (L : List Int), v = .int .i64 k ∧ k ≤ g.length ∧ L.length = g.length ∧ Hid (negs L k) ∧ Hid (wr.ownsRow G 3 1 (.slice (some ⟨G, 0, none⟩) g.length g.length) g.length (L.map Iv)) ∧ Below G w wr) (fun v _ => g.length - (intOf v).toNat)
  case atStart => exact ⟨0, _, rfl, Nat.zero_le _, by simp, Lib.hid (fun j hj => by omega), HO1, hb1⟩
  case round =>
    clear HO1 hb1 hbb1
    obtain ⟨k, L, rfl, hk, hL, HN, HO, hb⟩ := hrel
    by_cases hlt : k < g.length
    · obtain ⟨hc1, hc2⟩ := own_num HO.out k (by omega)
      go_wp2
      go_roundw
      case rel => exact ⟨k + 1, L.set k (-1), by go_num, by omega, by simpa using hL, Lib.hid (fun j hj => by
        rw [List.getElem?_set]
        by_cases e : k = j
        · subst e; simp; omega
        · rw [if_neg e]; exact HN.out j (by omega)), Lib.hid (own_num_set HO.out k (-1)), below_put hb (Nat.le_refl _)⟩
      case measure => simp [intOf]; omega
    · obtain ⟨bs, os, rfl, hsc⟩ := HS.out.bo hsl2
      have hbs : bs < w.heap.size := World.block_lt_of_cell? _ _ hsc
      have hscr : wr.cell? ⟨bs, os + goal, none⟩ = some (.bool s[goal]) := (hb.cell (p := ⟨bs, os + goal, none⟩) (by have := HGG.out; show bs < G; omega)).trans hsc
      have HL : Hid (L = List.replicate g.length (-1)) := Lib.hid (by
        have h := negs_all (L := L) (fun j hj => HN.out j (by omega))
        rw [hL] at h; exact h)
      have hat : atB s goal = s[goal] := by unfold atB; rw [List.getD_eq_getElem?_getD, List.getElem?_eq_getElem hsl2]; rfl
      rcases hsg : s[goal] with _ | _
      · rw [hsg] at hat hscr hsc
        have HF : Hid (distF g s goal = distK g s ((List.replicate g.length (-1)).set goal 0) (g.length - 1)) := Lib.hid (by unfold distF; rw [hat]; rfl)
        obtain ⟨hc1, hc2⟩ := own_num HO.out goal (by omega)
        have HO2 : Hid ((wr.setCell ⟨G, goal, none⟩ (.int .i64 0)).ownsRow G 3 1 (.slice (some ⟨G, 0, none⟩) g.length g.length) g.length ((distK g s ((List.replicate g.length (-1)).set goal 0) (1 - 1)).map Iv)) := Lib.hid (by rw [← HL.out]; exact own_num_set HO.out goal 0)
        have hb2 := below_put (i := goal) (v := .int .i64 0) hb (Nat.le_refl _)
        clear hat hsg hsc HN
        go_wp2
        clear hscr hc1 hc2
        have HIN := Lib.hid (show ∀ k, (distK g s ((List.replicate g.length (-1)).set goal 0) k).length = g.length from fun k => by rw [distK_length]; simp)
        generalize (List.replicate g.length (-1)).set goal 0 = init at *
        go_loopw [9] (fun v wr => ∃ (dd : Nat), v = .int .i64 dd ∧ 1 ≤ dd ∧ dd ≤ g.length ∧ Hid (wr.ownsRow G 3 1 (.slice (some ⟨G, 0, none⟩) g.length g.length) g.length ((distK g s init (dd - 1)).map Iv)) ∧ Below G w wr) (fun v _ => g.length - (intOf v).toNat)
        case atStart => exact ⟨1, rfl, by omega, by omega, HO2, hb2⟩
        case round =>
          clear HO2 hb2 hb HO
          obtain ⟨dd, rfl, hd1, hdn, HO, hb⟩ := hrel
          by_cases hdlt : dd < g.length
          · have HSt := Lib.hid (distK_step (g := g) (s := s) (out := init) hd1)
            have hol := HIN.out (dd - 1)
            generalize distK g s init (dd - 1) = out0 at *
            go_wp2
            go_loopw [10] (fun v wr => ∃ (u : Nat), v = .int .i64 u ∧ u ≤ g.length ∧ Hid (wr.ownsRow G 3 1 (.slice (some ⟨G, 0, none⟩) g.length g.length) g.length ((distR g s dd out0 u).map Iv)) ∧ Below G w wr) (fun v _ => g.length - (intOf v).toNat)
            case atStart => exact ⟨0, rfl, Nat.zero_le _, HO, hb⟩
            case round =>
              clear HO hb
              obtain ⟨u, rfl, hu, HO, hb⟩ := hrel
              by_cases hult : u < g.length
              · have hsu : u < s.length := by have := HSL.out; omega
                obtain ⟨bs, os, hBeq, hsc⟩ := HS.out.bo hsu
                injection hBeq with hBeq
                injection hBeq with hB1 hB2
                subst hB1 hB2
                have hbs : bs < w.heap.size := World.block_lt_of_cell? _ _ hsc
                have hscr : wr.cell? ⟨bs, os + u, none⟩ = some (.bool s[u]) := (hb.cell (p := ⟨bs, os + u, none⟩) (by have := HGG.out; show bs < G; omega)).trans hsc
                have hat : atB s u = s[u] := by unfold atB; rw [List.getD_eq_getElem?_getD, List.getElem?_eq_getElem hsu]; rfl
                have HSR := Lib.hid (distR_succ g s dd out0 u)
                have hrl := distR_length g s dd out0 u
                generalize distR g s dd out0 u = out at *
                have hou : u < out.length := by omega
                obtain ⟨hc1, hc2⟩ := own_num HO.out u hou
                have hgd : out.getD u (-1) = out[u] := by rw [List.getD_eq_getElem?_getD, List.getElem?_eq_getElem hou]; rfl
                clear hsc
                by_cases hstay : s[u] = true ∨ 0 ≤ out[u]
                · have HE : Hid (distR g s dd out0 (u + 1) = out) := Lib.hid (by rw [HSR.out, distV_stay (by rw [hat, hgd]; exact hstay)])
                  have hcase : s[u] = true ∨ s[u] = false ∧ decide (0 ≤ out[u]) = true := by
                    rcases hstay with h | h
                    · exact .inl h
                    · rcases hh : s[u] with _ | _
                      · exact .inr ⟨rfl, by simpa using h⟩
                      · exact .inl rfl
                  clear hat hgd hstay HSR
                  generalize s[u] = su at *
                  generalize out[u] = ou at *
                  rcases hcase with rfl | ⟨rfl, hge⟩
                  all_goals
                    go_wp2
                    go_roundw
                    case rel => exact ⟨u + 1, by go_num, by omega, Lib.hid (by rw [HE.out]; exact HO.out), hb⟩
                    case measure => simp [intOf]; omega
                · have hsf : s[u] = false := by rcases hh : s[u] with _ | _; rfl; exact absurd (.inl hh) hstay
                  have hneg : out[u] < 0 := by rcases Int.lt_or_le out[u] 0 with h | h; exact h; exact absurd (.inr h) hstay
                  have hdec : decide (0 ≤ out[u]) = false := by simp; omega
                  rw [hsf] at hscr hat
                  rw [← hgd] at hneg
                  have HCA := Lib.hid (fun (r : List Int) (m : Nat) (hr : r = rowG g u) (hm : r.length ≤ m) => curV_all (d := dd) hat hneg hr hm)
                  obtain ⟨bg, og, A1, c1, rfl, e1, h1⟩ := HH.out.one hult
                  have hbg : bg < w.heap.size := World.block_lt_of_cell? _ _ e1
                  have e1r : ∀ W, Below G w W → W.cell? ⟨bg, og + u, none⟩ = some (.slice A1 g[u].length c1) := fun W hW => (hW.cell (p := ⟨bg, og + u, none⟩) (by have := HGG.out; show bg < G; omega)).trans e1
                  have hrow : g[u] = rowG g u := by unfold rowG; rw [List.getD_eq_getElem?_getD, List.getElem?_eq_getElem hult]; rfl
                  have HRow := Lib.hid hrow
                  have hrl24 := HR.out _ (List.getElem_mem hult)
                  have HXX := Lib.hid (validG_row HG.out hult)
                  have H1 := Lib.hid h1
                  have HE1 := Lib.hid e1r
                  clear hat hneg hgd hsf hstay hrow h1 e1 e1r
                  generalize out[u] = ou at *
                  generalize g[u] = r at *
                  go_wp2
                  go_loopw [11] (fun v wr => ∃ (m : Nat), v = .int .i64 m ∧ m ≤ r.length ∧ Hid (wr.ownsRow G 3 1 (.slice (some ⟨G, 0, none⟩) g.length g.length) g.length ((curV r out dd u m).map Iv)) ∧ Below G w wr) (fun v _ => r.length - (intOf v).toNat)
                  case atStart => exact ⟨0, rfl, Nat.zero_le _, HO, hb⟩
                  case round =>
                    clear HO hb hscr hc1 hc2 hdec
                    obtain ⟨m, rfl, hm, HO, hb⟩ := hrel
                    have e1 := HE1.out wr hb
                    by_cases hmlt : m < r.length
                    · obtain ⟨br, or_, rfl, e2⟩ := H1.out.iv hmlt
                      have hbr : br < w.heap.size := World.block_lt_of_cell? _ _ e2
                      have e2r : wr.cell? ⟨br, or_ + m, none⟩ = some (.int .i64 r[m]) := (hb.cell (p := ⟨br, or_ + m, none⟩) (by have := HGG.out; show br < G; omega)).trans e2
                      obtain ⟨x0, x1, x2⟩ := HXX.out r[m] (List.getElem_mem hmlt)
                      have HCS := Lib.hid (curV_succ (out := out) (d := dd) (v := u) hmlt)
                      clear e2
                      generalize r[m] = x at *
                      obtain ⟨y, rfl⟩ := Int.eq_ofNat_of_zero_le x0
                      have hyn : y < out.length := by omega
                      have hyu : y ≠ u := by omega
                      have hget := curV_get (r := r) (out := out) (d := dd) (m := m) hyu
                      rw [List.getElem?_eq_getElem hyn] at hget
                      obtain ⟨hc1, _⟩ := own_get HO.out (i := y) (u := .int .i64 out[y]) (by rw [List.getElem?_map, hget]; rfl)
                      have hcl := curV_length r out dd u m
                      obtain ⟨hc3, hc4⟩ := own_num HO.out u (by omega)
                      have hat2 : atI out (y : Int) = out[y] := by unfold atI; rw [Int.toNat_natCast, List.getD_eq_getElem?_getD, List.getElem?_eq_getElem hyn]; rfl
                      rw [hat2] at HCS
                      clear x0 x1 x2 hat2 hget
                      have hyn' : (y : Int) < g.length := by omega
                      by_cases heq : out[y] = (dd : Int) - 1
                      · have hbq : (out[y] == (dd : Int) - 1) = true := by simpa using heq
                        rw [if_pos heq] at HCS
                        have HSet : Hid (curV r out dd u (m + 1) = (curV r out dd u m).set u dd) := Lib.hid (by
                          rw [HCS.out]
                          unfold curV
                          split
                          · rw [List.set_set]
                          · rfl)
                        clear heq HCS
                        generalize out[y] = oy at *
                        generalize (curV r out dd u m)[u] = cu at *
                        go_wp2
                        go_roundw
                        case rel => exact ⟨m + 1, by go_num, by omega, Lib.hid (by rw [HSet.out]; exact own_num_set HO.out u dd), below_put hb (Nat.le_refl _)⟩
                        case measure => simp [intOf]; omega
                      · have hbq : (out[y] == (dd : Int) - 1) = false := by simpa using heq
                        rw [if_neg heq] at HCS
                        clear heq
                        generalize out[y] = oy at *
                        go_wp2
                        go_roundw
                        case rel => exact ⟨m + 1, by go_num, by omega, Lib.hid (by rw [HCS.out]; exact HO.out), hb⟩
                        case measure => simp [intOf]; omega
                    · have HE : Hid (distR g s dd out0 (u + 1) = curV r out dd u m) := Lib.hid (by rw [HSR.out, HCA.out r m HRow.out (by omega)])
                      go_wp2
                      go_roundw
                      case rel => exact ⟨u + 1, by go_num, by omega, Lib.hid (by rw [HE.out]; exact HO.out), hb⟩
                      case measure => simp [intOf]; omega
              · have HE : Hid (distR g s dd out0 u = distK g s init dd) := Lib.hid (by rw [HSt.out, show u = g.length by omega])
                go_wp2
                go_roundw
                case rel => exact ⟨dd + 1, by go_num, by omega, by omega, Lib.hid (by rw [Nat.add_sub_cancel, ← HE.out]; exact HO.out), hb⟩
                case measure => simp [intOf]; omega
          · have HE : Hid (distK g s init (dd - 1) = distF g s goal) := Lib.hid (by rw [HF.out, show dd = g.length by omega])
            go_wp2
            go_ret
            exact ⟨_, rfl, by rw [← HE.out, ← HGG.out]; exact HO.out, by rw [← HGG.out]; exact hb⟩
      · rw [hsg] at hat hscr hsc
        have HF : Hid (distF g s goal = L) := Lib.hid (by rw [distF_shut hat, HL.out])
        clear hat hsg hsc HN
        go_wp2
        go_ret
        exact ⟨_, rfl, by rw [HF.out, ← HGG.out]; exact HO.out, by rw [← HGG.out]; exact hb⟩
end Go.Proofs.Ythfhplhdfnebhaa
