/- Joined texts. -/
import Derived.Test.YtfgpenekmokdiaaMzAX
import Derived.Test.YtfgpenekmokdiaaMzAG
import Derived.Test.YtfgpenekmokdiaaMzAP
import Derived.Test.YtfgpenekmokdiaaMzAB
import Derived.Test.YtfgpenekmokdiaaMzAL
namespace Go.Proofs.Ytfgpenekmokdiaa
open Go Go.RowKit Fl

theorem ListPost.res {w w' : World} {l : List Int} {k : Int} {e : Ending} (h : ListPost w l k e w') : IntsRes w l k e w' := by
  obtain ⟨u, rfl, ho, hb⟩ := h
  obtain ⟨A, c, rfl, hr⟩ := own_is ho
  exact ⟨A, c, rfl, hr, hb⟩
def DevPath : Prop := ∀ (A B : Option Addr) (c d : Nat) (g : GraphD) (s : List Bool) (a goal : Int) (w : World), RowsAt w A g → Holds w B (s.map Bo) → Sized g →
  Calls Try.prog 70 #[.slice A g.length c, .slice B s.length d, .int .i64 a, .int .i64 goal] w (IntsRes w (patL g s a goal) (twoE g s.length a goal))
theorem path_ok (h : DevPath) {A B : Option Addr} {c d n a v : Nat} {g : GraphD} {s : List Bool} {W : World} (hr : RowsAt W A g) (hs : Holds W B (s.map Bo)) (hg : validG g = true) (hn : g.length = n) (hsl : s.length = n) (ha : a < n) (hv : v < n) :
    Calls Try.prog 70 #[.slice A n c, .slice B n d, .int .i64 (a : Int), .int .i64 (v : Int)] W fun e w' => ∃ X cx, e = .returned (.tuple #[.slice X (firstF g s a v).length cx, .int .i64 0]) ∧ Holds w' X ((firstF g s a v).map Iv) ∧ Below W.heap.size W w' := by
  have h := h A B c d g s a v W hr hs (Sized.valid hg)
  have h0 := twoE_ok (m := s.length) (a := a) (b := v) (chkG_ok hg (by omega)) (by omega) (by omega)
  have h1 : patL g s a v = firstF g s a v := by unfold patL; rw [if_pos h0, Int.toNat_natCast, Int.toNat_natCast]
  rw [h1, h0, hsl, hn] at h
  exact h
/-! ### The example -/
theorem alloc5h (w : World) (o1 o2 o3 o4 o5 : Obj) : (((((w.alloc o1).alloc o2).alloc o3).alloc o4).alloc o5).heap[w.heap.size]? = some o1 ∧ (((((w.alloc o1).alloc o2).alloc o3).alloc o4).alloc o5).heap[w.heap.size + 1]? = some o2 ∧ (((((w.alloc o1).alloc o2).alloc o3).alloc o4).alloc o5).heap[w.heap.size + 1 + 1]? = some o3 ∧ (((((w.alloc o1).alloc o2).alloc o3).alloc o4).alloc o5).heap[w.heap.size + 1 + 1 + 1]? = some o4 ∧ (((((w.alloc o1).alloc o2).alloc o3).alloc o4).alloc o5).heap[w.heap.size + 1 + 1 + 1 + 1]? = some o5 := by
  have e : (((((w.alloc o1).alloc o2).alloc o3).alloc o4).alloc o5).heap = ((((w.heap.push o1).push o2).push o3).push o4).push o5 := rfl
  rw [e]
  refine ⟨?_, ?_, ?_, ?_, ?_⟩ <;> simp only [Array.getElem?_push, Array.size_push]
  · rw [if_neg (by omega), if_neg (by omega), if_neg (by omega), if_neg (by omega), if_pos trivial]
  · rw [if_neg (by omega), if_neg (by omega), if_neg (by omega), if_pos trivial]
  · rw [if_neg (by omega), if_neg (by omega), if_pos trivial]
  · rw [if_neg (by omega), if_pos trivial]
  · rw [if_pos trivial]
theorem rows4 (w : World) (n : Nat) (c1 c2 c3 c4 : Array Value) (r1 r2 r3 r4 : List Int) (k1 k2 k3 k4 : Nat) (e1 e2 e3 e4 e5 : TypeId) (h1 : c1.toList = r1.map Iv) (h2 : c2.toList = r2.map Iv) (h3 : c3.toList = r3.map Iv) (h4 : c4.toList = r4.map Iv) (hn : n = w.heap.size) (l1 : k1 = r1.length) (l2 : k2 = r2.length) (l3 : k3 = r3.length) (l4 : k4 = r4.length) :
    RowsAt (((((w.alloc (.cells c1 e1)).alloc (.cells c2 e2)).alloc (.cells c3 e3)).alloc (.cells c4 e4)).alloc (.cells #[.slice (some ⟨n, 0, none⟩) k1 k1, .slice (some ⟨n + 1, 0, none⟩) k2 k2, .slice (some ⟨n + 1 + 1, 0, none⟩) k3 k3, .slice (some ⟨n + 1 + 1 + 1, 0, none⟩) k4 k4] e5)) (some ⟨n + 1 + 1 + 1 + 1, 0, none⟩) [r1, r2, r3, r4] := by
  subst hn l1 l2 l3 l4
  obtain ⟨b1, b2, b3, b4, b5⟩ := alloc5h w (.cells c1 e1) (.cells c2 e2) (.cells c3 e3) (.cells c4 e4) (.cells #[.slice (some ⟨w.heap.size, 0, none⟩) r1.length r1.length, .slice (some ⟨w.heap.size + 1, 0, none⟩) r2.length r2.length, .slice (some ⟨w.heap.size + 1 + 1, 0, none⟩) r3.length r3.length, .slice (some ⟨w.heap.size + 1 + 1 + 1, 0, none⟩) r4.length r4.length] e5)
  generalize (((((w.alloc (.cells c1 e1)).alloc (.cells c2 e2)).alloc (.cells c3 e3)).alloc (.cells c4 e4)).alloc (.cells #[.slice (some ⟨w.heap.size, 0, none⟩) r1.length r1.length, .slice (some ⟨w.heap.size + 1, 0, none⟩) r2.length r2.length, .slice (some ⟨w.heap.size + 1 + 1, 0, none⟩) r3.length r3.length, .slice (some ⟨w.heap.size + 1 + 1 + 1, 0, none⟩) r4.length r4.length] e5)) = W at b1 b2 b3 b4 b5 ⊢
  refine .inr ⟨w.heap.size + 1 + 1 + 1 + 1, 0, rfl, block_lt b5, fun k hk => ?_⟩
  have hk4 : k < 4 := hk
  match k, hk4 with
  | 0, _ => exact ⟨_, r1.length, by rw [cell_of_row W _ _ _ e5 _ b5]; rfl, holds_blk b1 h1⟩
  | 1, _ => exact ⟨_, r2.length, by rw [cell_of_row W _ _ _ e5 _ b5]; rfl, holds_blk b2 h2⟩
  | 2, _ => exact ⟨_, r3.length, by rw [cell_of_row W _ _ _ e5 _ b5]; rfl, holds_blk b3 h3⟩
  | 3, _ => exact ⟨_, r4.length, by rw [cell_of_row W _ _ _ e5 _ b5]; rfl, holds_blk b4 h4⟩
theorem below_alloc5 (w : World) (o1 o2 o3 o4 o5 : Obj) : Below w.heap.size w (((((w.alloc o1).alloc o2).alloc o3).alloc o4).alloc o5) := (((((Below.refl _ _).alloc (Nat.le_refl _) _).alloc (by simp) _).alloc (by simp; omega) _).alloc (by simp; omega) _).alloc (by simp; omega) _
abbrev cG : GraphD := [[1], [2], [3], [0]]
abbrev cS : List Bool := [false, false, false, false]
theorem cG_valid : validG cG = true := by decide
theorem c_dist : distF cG cS 0 = [0, 3, 2, 1] := by decide
theorem c_hops : hopsL cG (distF cG cS 0) = [-1, 2, 3, 0] := by decide
theorem c_path : firstF cG cS 1 0 = [1, 2, 3, 0] := by decide
theorem c_tab : tabF cG cS 4 = [[-1, 2, 3, 0], [1, -1, 3, 0], [1, 2, -1, 0], [1, 2, 3, -1]] := by decide
end Go.Proofs.Ytfgpenekmokdiaa
namespace Go.Proofs.Ytfgpenekmokdiaa.Fl

/-- The least vertex of a list that has this distance. -/
def leastAtF (l dist : List Int) (d : Int) : Int := (l.find? (fun x => decide (atI dist x = d))).getD (-1)
theorem leastAt_step {l dist : List Int} {d : Int} {k : Nat} (hk : k < l.length) : leastAtF (l.drop k) dist d = if atI dist l[k] = d then l[k] else leastAtF (l.drop (k + 1)) dist d := by
  unfold leastAtF
  rw [List.drop_eq_getElem_cons hk, List.find?_cons]
  by_cases h : atI dist l[k] = d
  · simp [h]
  · simp [h]
theorem leastAt_end {l dist : List Int} {d : Int} {k : Nat} (hk : l.length ≤ k) : leastAtF (l.drop k) dist d = -1 := by
  unfold leastAtF; rw [List.drop_of_length_le hk]; rfl
theorem leastAt_any {l dist : List Int} {d : Int} (h0 : ∀ x ∈ l, 0 ≤ x) : decide (0 ≤ leastAtF l dist d) = l.any (fun x => decide (atI dist x = d)) := by
  unfold leastAtF
  rcases h : l.find? (fun x => decide (atI dist x = d)) with _ | y
  · have h1 := List.find?_eq_none.1 h
    have : l.any (fun x => decide (atI dist x = d)) = false := by
      rw [List.any_eq_false]
      exact fun x hx => h1 x hx
    rw [this]
    rfl
  · have h1 := List.find?_some h
    have h2 := List.mem_of_find?_eq_some h
    have : l.any (fun x => decide (atI dist x = d)) = true := List.any_eq_true.2 ⟨y, h2, h1⟩
    rw [this]
    exact decide_eq_true (h0 y h2)
theorem woRow_any {s : List Bool} {l out : List Int} {d : Int} (ho : ∀ u, 0 ≤ dAt out u → atB s u = false) (hd : 0 ≤ d) : (woRow s l).any (fun x => decide (atI out x = d)) = l.any (fun x => decide (atI out x = d)) := by
  rw [Bool.eq_iff_iff, List.any_eq_true, List.any_eq_true]
  unfold woRow
  constructor
  · rintro ⟨x, hx, h⟩
    exact ⟨x, (List.mem_filter.1 hx).1, h⟩
  · rintro ⟨x, hx, h⟩
    refine ⟨x, List.mem_filter.2 ⟨hx, ?_⟩, h⟩
    have h1 : atI out x = d := of_decide_eq_true h
    have h2 := ho x.toNat (by show 0 ≤ atI out x; omega)
    simp [h2]
/-- One vertex in a round: over the graph without the edges at shut vertices as over the graph. -/
theorem distV_wo {g : GraphD} {s : List Bool} {out : List Int} {v : Nat} {d : Int} (hv : v < g.length) (hd : 1 ≤ d) (ho : ∀ u, 0 ≤ dAt out u → atB s u = false) : distV (woG g s) [] d out v = distV g s d out v := by
  have hn : atB [] v = false := rfl
  unfold distV
  rw [hn, woG_row hv]
  rcases hs : atB s v with _ | _
  · simp only [Bool.false_or, Bool.false_eq_true, if_false]
    rw [woRow_any ho (by omega)]
  · simp
theorem distR_wo {g : GraphD} {s : List Bool} {out : List Int} {d : Int} (hd : 1 ≤ d) (ho : ∀ u, 0 ≤ dAt out u → atB s u = false) : ∀ k, k ≤ g.length → distR (woG g s) [] d out k = distR g s d out k
  | 0, _ => rfl
  | k + 1, hk => by
    rw [distR_succ, distR_succ, distR_wo hd ho k (by omega)]
    exact distV_wo (by omega) hd (distR_open ho k)
theorem distK_wo {g : GraphD} {s : List Bool} {out : List Int} (ho : ∀ u, 0 ≤ dAt out u → atB s u = false) : ∀ k, distK (woG g s) [] out k = distK g s out k
  | 0 => rfl
  | k + 1 => by
    rw [distK_succ, distK_succ, distK_wo ho k, woG_length]
    exact distR_wo (by omega) (distK_open ho k) _ (Nat.le_refl _)
/-- A round past the last one changes nothing. -/
theorem distR_idle {g : GraphD} {s : List Bool} {goal : Nat} {out : List Int} (hg : validG g = true) (hn : 1 ≤ g.length) (h : DistInv g goal ((g.length : Int) - 1) out) : ∀ k, k ≤ g.length → distR g s (g.length : Int) out k = out
  | 0, _ => rfl
  | k + 1, hk => by
    rw [distR_succ, distR_idle hg hn h k (by omega)]
    have hinv := distV_inv (s := s) (v := k) hg (by omega) (d := (g.length : Int)) (by omega) (h.more (by omega))
    unfold distV at hinv ⊢
    split
    · rfl
    · rename_i h1
      split
      · rename_i h2
        rw [if_neg h1, if_pos h2] at hinv
        exfalso
        have := dist_small hinv (k := g.length) (u := k) (by omega) (by rw [dAt_set (by rw [h.len]; omega), if_pos rfl])
        omega
      · rfl
theorem dist_dev {g : GraphD} {s : List Bool} {goal : Nat} (hg : validG g = true) (hgo : goal < g.length) (hs : atB s goal = false) : distK (woG g s) [] ((List.replicate g.length (-1)).set goal 0) g.length = distF g s goal := by
  have h0 := dist_start (g := g) hgo
  have ho := start_open hgo hs
  rw [distK_wo ho]
  unfold distF
  rw [hs]
  simp only [Bool.false_eq_true, if_false]
  obtain ⟨m, hm⟩ : ∃ m, g.length = m + 1 := ⟨g.length - 1, by omega⟩
  have h1 := distK_inv (s := s) hg h0 m
  have h2 := distR_idle (s := s) hg (by omega) (h1.more (by omega)) g.length (Nat.le_refl _)
  conv => lhs; rw [hm]
  rw [distK_succ, hm, Nat.add_sub_cancel]
  rw [hm] at h2
  rw [show ((m : Int) + 1) = ((m + 1 : Nat) : Int) by omega]
  exact h2
theorem distF_open {g : GraphD} {s : List Bool} {goal : Nat} (hgo : goal < g.length) : ∀ u, 0 ≤ dAt (distF g s goal) u → atB s u = false := by
  rcases hs : atB s goal with _ | _
  · unfold distF
    rw [hs]
    exact distK_open (start_open hgo hs) _
  · intro u hu
    rw [distF_shut hs] at hu
    exfalso
    unfold dAt at hu
    rw [List.getD_eq_getElem?_getD, List.getElem?_replicate] at hu
    split at hu <;> simp at hu
/-- The hop over the graph without the edges at shut vertices. -/
theorem hop_dev {g : GraphD} {s : List Bool} {dist : List Int} {v : Nat} (hv : v < g.length) (ho : ∀ u, 0 ≤ dAt dist u → atB s u = false) (hp : 0 < dAt dist v) : leastAtF (rowG (woG g s) v) dist (dAt dist v - 1) = hopV g dist v := by
  have hsv := ho v (by omega)
  unfold hopV
  rw [if_pos hp, woG_row hv, hsv]
  unfold leastAtF hopOf woRow
  simp only [Bool.false_eq_true, if_false]
  rw [List.find?_filter]
  congr 2
  funext x
  rw [decide_eq_decide]
  constructor
  · rintro ⟨_, h⟩
    exact of_decide_eq_true h
  · intro h
    have h : atI dist x = dAt dist v - 1 := h
    have h2 := ho x.toNat (by show 0 ≤ atI dist x; omega)
    exact ⟨by rw [h2]; rfl, decide_eq_true h⟩
end Go.Proofs.Ytfgpenekmokdiaa.Fl
namespace Go.Proofs.Ytfgpenekmokdiaa
open Go Go.RowKit Fl

set_option maxRecDepth 100000 in
set_option maxHeartbeats 4000000 in
theorem leastAt_c (A B : Option Addr) (c d : Nat) (l dist : List Int) (z : Int) (w : World) (hl : Holds w A (l.map Iv)) (hd : Holds w B (dist.map Iv)) (hx : ∀ x ∈ l, 0 ≤ x ∧ x < dist.length) (hll : l.length ≤ 24) :
    Calls Try.prog 87 #[.slice A l.length c, .slice B dist.length d, .int .i64 z] w fun e w' => e = .returned (.int .i64 (leastAtF l dist z)) ∧ w = w' := by
  have HL := Lib.hid hl
  have HD := Lib.hid hd
  have HX := Lib.hid hx
  have HS : Hid (leastAtF (l.drop 0) dist z = leastAtF l dist z) := Lib.hid (by rw [List.drop_zero])
  have HT : Hid (∀ k, (hk : k < l.length) → leastAtF (l.drop k) dist z = if atI dist l[k] = z then l[k] else leastAtF (l.drop (k + 1)) dist z) := Lib.hid (fun k hk => leastAt_step hk)
  have HE : Hid (leastAtF (l.drop l.length) dist z = -1) := Lib.hid (leastAt_end (Nat.le_refl _))
  clear hl hd hx
  go_enter Try.func87, Try.ntmps87
  go_wp2
  go_loopw [11] (fun v wr => ∃ (k : Nat), v = .int .i64 k ∧ k ≤ l.length ∧ Hid (leastAtF (l.drop k) dist z = leastAtF l dist z) ∧ w = wr) (fun v _ => l.length - (intOf v).toNat)
  case atStart => exact ⟨0, rfl, Nat.zero_le _, HS, rfl⟩
  case round =>
    clear HS
    obtain ⟨k, rfl, hk, HS, rfl⟩ := hrel
    by_cases hlt : k < l.length
    · obtain ⟨bl, ol, rfl, el⟩ := HL.out.iv hlt
      obtain ⟨x0, x1⟩ := HX.out l[k] (List.getElem_mem hlt)
      have HTk := Lib.hid (HT.out k hlt)
      generalize l[k] = x at *
      obtain ⟨y, rfl⟩ := Int.eq_ofNat_of_zero_le x0
      have hyd : y < dist.length := by omega
      obtain ⟨bd, od, rfl, ed⟩ := HD.out.iv hyd
      have hat2 : atI dist (y : Int) = dist[y] := by unfold atI; rw [Int.toNat_natCast, List.getD_eq_getElem?_getD, List.getElem?_eq_getElem hyd]; rfl
      rw [hat2] at HTk
      clear x0 x1 hat2
      by_cases heq : dist[y] = z
      · have hbq : (dist[y] == z) = true := by simpa using heq
        have HF : Hid (leastAtF l dist z = y) := Lib.hid (by rw [← HS.out, HTk.out, if_pos heq])
        clear heq HTk HT HS HE
        generalize dist[y] = dy at *
        go_wp2
        go_ret
        exact ⟨by rw [HF.out]; rfl, rfl⟩
      · have hbq : (dist[y] == z) = false := by simpa using heq
        have HF : Hid (leastAtF (l.drop (k + 1)) dist z = leastAtF l dist z) := Lib.hid (by rw [← HS.out, HTk.out, if_neg heq])
        clear heq HTk
        generalize dist[y] = dy at *
        go_wp2
        go_roundw
        case rel => exact ⟨k + 1, by go_num, by omega, HF, trivial⟩
        case measure => simp [intOf]; omega
    · obtain rfl : k = l.length := by omega
      have HF : Hid (leastAtF l dist z = -1) := Lib.hid (by rw [← HS.out, HE.out])
      clear HT
      go_wp2
      go_ret
      exact ⟨by rw [HF.out]; rfl, rfl⟩
theorem new_cellR (W : World) (u : Value) (t : TypeId) : (W.alloc (.cells #[u] t)).cell? ⟨W.heap.size, 0, none⟩ = some u := by
  rw [cell_of_row _ _ 0 _ _ _ (heap_alloc_new W _)]
  rfl
theorem distV_hit {g : GraphD} {d : Int} {out l : List Int} {v : Nat} {z : Int} (hl : rowG g v = l) (h0 : ∀ x ∈ l, 0 ≤ x) (h1 : out.getD v (-1) < 0) (hz : leastAtF l out z = leastAtF l out (d - 1)) (h2 : 0 ≤ leastAtF l out z) : distV g [] d out v = out.set v d := by
  have hn : atB [] v = false := rfl
  unfold distV
  rw [hn, Bool.false_or, decide_eq_false (by omega), hl, ← leastAt_any h0, ← hz, decide_eq_true h2]
  rfl
theorem distV_miss {g : GraphD} {d : Int} {out l : List Int} {v : Nat} {z : Int} (hl : rowG g v = l) (h0 : ∀ x ∈ l, 0 ≤ x) (hz : leastAtF l out z = leastAtF l out (d - 1)) (h2 : ¬ 0 ≤ leastAtF l out z) : distV g [] d out v = out := by
  have hn : atB [] v = false := rfl
  unfold distV
  rw [hn, Bool.false_or, hl, ← leastAt_any h0, ← hz, decide_eq_false h2]
  simp
set_option maxRecDepth 100000 in
set_option maxHeartbeats 4000000 in
theorem distancesFrom_c (A B : Option Addr) (c d : Nat) (g : GraphD) (s : List Bool) (goal : Nat) (w : World) (hh : RowsAt w A (woG g s)) (hs : Holds w B (s.map Bo)) (hg : validG g = true) (hsl : s.length = g.length) (hgoal : goal < g.length) :
    Calls Try.prog 85 #[.slice A g.length c, .slice B s.length d, .int .i64 goal] w fun e w' => ∃ v, e = .returned v ∧ w'.ownsRow w.heap.size 3 1 v g.length ((distF g s goal).map Iv) ∧ Below w.heap.size w w' := by
  have HF0 := Lib.hid (fun h => dist_dev (s := s) hg hgoal h)
  have HF1 := Lib.hid (fun h => distF_shut (g := g) (s := s) (goal := goal) h)
  have hv := woG_valid (s := s) hg
  have hl24 := validG_len hg
  have hol := woG_length g s
  have HR := Lib.hid (validG_short hv)
  have HX := Lib.hid (fun (k : Nat) (hk : k < (woG g s).length) => validG_row hv hk)
  have HSL := Lib.hid hsl
  have HH := Lib.hid hh
  have HS := Lib.hid hs
  have HOL := Lib.hid hol
  have hsl2 : goal < s.length := by omega
  have hat : atB s goal = s[goal] := by unfold atB; rw [List.getD_eq_getElem?_getD, List.getElem?_eq_getElem hsl2]; rfl
  have HAT := Lib.hid hat
  clear hh hs hg hsl hv hol hat
  generalize woG g s = O at *
  generalize distF g s goal = D at *
  have CR := Lib.hid (repeat_c w.heap.size g.length (w.alloc (.cells #[.int .i64 (-1)] 3)) (new_cellR _ _ _) hl24)
  rw [show (w.alloc (.cells #[.int .i64 (-1)] 3)).heap.size = w.heap.size + 1 from by simp] at CR
  go_enter Try.func85, Try.ntmps85
  go_wp2_with fail
  refine CR.out.mono ?_
  rintro e w1 ⟨rfl, own1, hb1⟩
  have HO1 : Hid (w1.ownsRow (w.heap.size + 1) 3 1 (.slice (some ⟨w.heap.size + 1, 0, none⟩) g.length g.length) g.length ((List.replicate g.length (-1 : Int)).map Iv)) := Lib.hid (by rw [List.map_replicate]; exact own1)
  have HB1 := Lib.hid ((below_alloc w (.cells #[.int .i64 (-1)] 3)).trans (hb1.mono (by simp)))
  clear own1 hb1 CR
  obtain ⟨bs, os, rfl, hsc⟩ := HS.out.bo hsl2
  have hbs : bs < w.heap.size := World.block_lt_of_cell? _ _ hsc
  have hscr : w1.cell? ⟨bs, os + goal, none⟩ = some (.bool s[goal]) := (HB1.out.cell (p := ⟨bs, os + goal, none⟩) hbs).trans hsc
  clear hsc hbs
  obtain ⟨G, hG⟩ : ∃ G, G = w.heap.size + 1 := ⟨_, rfl⟩
  rw [← hG] at HO1 ⊢
  have HGG := Lib.hid hG
  clear hG
  generalize s[goal] = sg at *
  rcases sg with _ | _
  · have HF := Lib.hid (HF0.out HAT.out)
    clear HF0 HF1 HAT
    have hrl : (List.replicate g.length (-1 : Int)).length = g.length := by simp
    generalize List.replicate g.length (-1 : Int) = ones at *
    obtain ⟨hc1, hc2⟩ := own_num HO1.out goal (by omega)
    have HO2 := Lib.hid (own_num_set HO1.out goal 0)
    have HB2 := Lib.hid (below_put (i := goal) (v := .int .i64 0) HB1.out (by have := HGG.out; omega : w.heap.size ≤ G))
    have hil : (ones.set goal 0).length = g.length := by simpa using hrl
    go_wp2
    clear hscr hc1 hc2 HO1 HB1
    generalize w1.setCell ⟨G, goal, none⟩ (.int .i64 0) = w2 at *
    generalize ones.set goal 0 = init at *
    have HIN := Lib.hid (show ∀ k, (distK O [] init k).length = g.length from fun k => by rw [distK_length]; exact hil)
    go_loopw [8, 9, 24] (fun _ _ v wr => ∃ (k : Nat), v = .int .i64 k ∧ k ≤ g.length ∧ Hid (wr.ownsRow G 3 1 (.slice (some ⟨G, 0, none⟩) g.length g.length) g.length ((distK O [] init k).map Iv)) ∧ Hid (Below w.heap.size w wr)) (fun _ _ v _ => g.length - (intOf v).toNat)
    case atStart => exact ⟨0, rfl, Nat.zero_le _, HO2, HB2⟩
    case round =>
      clear HO2 HB2
      obtain ⟨k, rfl, hk, HO, HB⟩ := hrel
      by_cases hlt : k < g.length
      · have HSt := Lib.hid (distK_succ O [] init k)
        rw [HOL.out] at HSt
        have hol0 := HIN.out k
        generalize distK O [] init k = out0 at *
        go_wp2
        go_loopw [9, 29] (fun _ v wr => ∃ (u : Nat), v = .int .i64 u ∧ u ≤ g.length ∧ Hid (wr.ownsRow G 3 1 (.slice (some ⟨G, 0, none⟩) g.length g.length) g.length ((distR O [] ((k : Int) + 1) out0 u).map Iv)) ∧ Hid (Below w.heap.size w wr)) (fun _ v _ => g.length - (intOf v).toNat)
        case atStart => exact ⟨0, rfl, Nat.zero_le _, HO, HB⟩
        case round =>
          clear HO HB
          obtain ⟨u, rfl, hu, HO, HB⟩ := hrel
          by_cases hult : u < g.length
          · have HSR := Lib.hid (distR_succ O [] ((k : Int) + 1) out0 u)
            have hrl2 := distR_length O [] ((k : Int) + 1) out0 u
            generalize distR O [] ((k : Int) + 1) out0 u = out at *
            have hou : u < out.length := by omega
            obtain ⟨hc1, hc2⟩ := own_num HO.out u hou
            have hgd : out.getD u (-1) = out[u] := by rw [List.getD_eq_getElem?_getD, List.getElem?_eq_getElem hou]; rfl
            by_cases hneg : out[u] < 0
            · have hdec : decide (out[u] < 0) = true := by simpa using hneg
              have huO : u < O.length := by have := HOL.out; omega
              obtain ⟨bg, og, A1, c1, rfl, e1, h1⟩ := HH.out.one huO
              have hbg : bg < w.heap.size := World.block_lt_of_cell? _ _ e1
              have e1r : wr.cell? ⟨bg, og + u, none⟩ = some (.slice A1 O[u].length c1) := (HB.out.cell (p := ⟨bg, og + u, none⟩) hbg).trans e1
              have hrl24 := HR.out _ (List.getElem_mem huO)
              have hxx := HX.out u huO
              have hrow := rowG_at huO
              have hO : ∃ AD, wr.cell? ⟨G, u, none⟩ = some (.int .i64 out[u]) ∧ AD = (some (⟨G, 0, none⟩ : Addr)) ∧ Holds wr AD (out.map Iv) := ⟨_, hc1, rfl, by obtain ⟨AA, cc, he, hH⟩ := own_is HO.out; injection he with he; rw [he]; exact hH⟩
              obtain ⟨AD, _, hAD, hHD⟩ := hO
              subst hAD
              have CL := Lib.hid (leastAt_c A1 (some ⟨G, 0, none⟩) c1 g.length O[u] out (k : Int) wr (h1.keep HB.out) hHD (fun x hx => by have := hxx x hx; have := HOL.out; omega) hrl24)
              rw [show out.length = g.length by omega] at CL
              have hz : leastAtF O[u] out (k : Int) = leastAtF O[u] out ((k : Int) + 1 - 1) := by rw [Int.add_sub_cancel]
              rw [← hgd] at hneg
              have HHit := Lib.hid (fun h => distV_hit hrow (fun x hx => (hxx x hx).1) hneg hz h)
              have HMiss := Lib.hid (fun h => distV_miss hrow (fun x hx => (hxx x hx).1) hz h)
              clear hgd e1 h1 hxx hHD hneg hz hrow
              generalize out[u] = ou at *
              generalize leastAtF O[u] out (k : Int) = least at *
              generalize O[u] = r at *
              go_wp2_with fail
              refine CL.out.mono ?_
              rintro e wx ⟨rfl, rfl⟩
              clear CL e1r
              by_cases hge : 0 ≤ least
              · have hdec2 : decide (0 ≤ least) = true := by simpa using hge
                have HN : Hid (distR O [] ((k : Int) + 1) out0 (u + 1) = out.set u ((k : Int) + 1)) := Lib.hid (by rw [HSR.out, HHit.out hge])
                have HOS := Lib.hid (own_num_set HO.out u ((k : Int) + 1))
                have HBS := Lib.hid (below_put (i := u) (v := .int .i64 ((k : Int) + 1)) HB.out (by have := HGG.out; omega : w.heap.size ≤ G))
                clear HHit HMiss HSR hge HO HB
                go_wp2
                go_roundw
                case rel => exact ⟨u + 1, by go_num, by omega, Lib.hid (by rw [HN.out]; exact HOS.out), HBS⟩
                case measure => simp [intOf]; omega
              · have hdec2 : decide (0 ≤ least) = false := by simpa using hge
                have HN : Hid (distR O [] ((k : Int) + 1) out0 (u + 1) = out) := Lib.hid (by rw [HSR.out, HMiss.out (by omega)])
                clear HHit HMiss HSR hge
                go_wp2
                go_roundw
                case rel => exact ⟨u + 1, by go_num, by omega, Lib.hid (by rw [HN.out]; exact HO.out), HB⟩
                case measure => simp [intOf]; omega
            · have hdec : decide (out[u] < 0) = false := by simpa using hneg
              have HN : Hid (distR O [] ((k : Int) + 1) out0 (u + 1) = out) := Lib.hid (by rw [HSR.out, distV_stay (.inr (by rw [hgd]; omega))])
              clear hgd HSR hneg
              generalize out[u] = ou at *
              go_wp2
              go_roundw
              case rel => exact ⟨u + 1, by go_num, by omega, Lib.hid (by rw [HN.out]; exact HO.out), HB⟩
              case measure => simp [intOf]; omega
          · obtain rfl : u = g.length := by omega
            go_wp2
            go_roundw
            case rel => exact ⟨k + 1, by go_num, by omega, Lib.hid (by rw [HSt.out]; exact HO.out), HB⟩
            case measure => simp [intOf]; omega
      · obtain rfl : k = g.length := by omega
        go_wp2
        go_ret
        exact ⟨_, rfl, ownsRow_base (by rw [← HF.out]; exact HO.out) (by have := HGG.out; omega), HB.out⟩
  · have HF := Lib.hid (HF1.out HAT.out)
    clear HF0 HF1 HAT
    go_wp2
    go_ret
    exact ⟨_, rfl, ownsRow_base (by rw [HF.out]; exact HO1.out) (by have := HGG.out; omega), HB1.out⟩
end Go.Proofs.Ytfgpenekmokdiaa
namespace Go.Proofs.Ytfgpenekmokdiaa
open Go Go.RowKit Fl

/-- The first k hops, and -1 behind them. -/
def hopsN (g : GraphD) (dist L : List Int) (k : Nat) : Prop := hopsTo g dist L k ∧ ∀ j, k ≤ j → j < g.length → L[j]? = some (-1)
theorem hopsN_stay {g : GraphD} {dist L : List Int} {k : Nat} (h : hopsN g dist L k) (hk : k < g.length) (hz : hopV g dist k = -1) : hopsN g dist L (k + 1) :=
  ⟨fun j hj => by
    rcases Nat.lt_succ_iff_lt_or_eq.1 hj with h1 | rfl
    · exact h.1 j h1
    · rw [hz]; exact h.2 j (Nat.le_refl _) hk, fun j h1 h2 => h.2 j (by omega) h2⟩
theorem hopsN_put {g : GraphD} {dist L : List Int} {k : Nat} {z : Int} (h : hopsN g dist L k) (hk : k < L.length) (hz : z = hopV g dist k) : hopsN g dist (L.set k z) (k + 1) :=
  ⟨hopsTo_snoc h.1 hk hz, fun j h1 h2 => by rw [List.getElem?_set, if_neg (by omega)]; exact h.2 j (by omega) h2⟩
set_option maxRecDepth 100000 in
set_option maxHeartbeats 4000000 in
theorem hopsTo_c (A B : Option Addr) (c d : Nat) (g : GraphD) (s : List Bool) (goal : Nat) (w : World) (hh : RowsAt w A (woG g s)) (hs : Holds w B (s.map Bo)) (hg : validG g = true) (hsl : s.length = g.length) (hgoal : goal < g.length) :
    Calls Try.prog 81 #[.slice A g.length c, .slice B s.length d, .int .i64 goal] w fun e w' => ∃ v, e = .returned v ∧ w'.ownsRow w.heap.size 3 1 v g.length ((hopsL g (distF g s goal)).map Iv) ∧ Below w.heap.size w w' := by
  have CD := Lib.hid (distancesFrom_c A B c d g s goal w hh hs hg hsl hgoal)
  have hl24 := validG_len hg
  have hv := woG_valid (s := s) hg
  have hol := woG_length g s
  have HR := Lib.hid (validG_short hv)
  have HX := Lib.hid (fun (k : Nat) (hk : k < (woG g s).length) => validG_row hv hk)
  have HOL := Lib.hid hol
  have HDB := Lib.hid (distF_bounds (s := s) hg hgoal)
  have HDL := Lib.hid (distF_length g s goal)
  have HHop := Lib.hid (fun (v : Nat) (hv : v < g.length) h => hop_dev (dist := distF g s goal) hv (distF_open (s := s) hgoal) h)
  have HH := Lib.hid hh
  clear hh hs hg hv hol hsl
  generalize distF g s goal = dist at *
  generalize woG g s = O at *
  go_enter Try.func81, Try.ntmps81
  go_wp2_with fail
  refine CD.out.mono ?_
  rintro e w1 ⟨vd, rfl, own1, hb1⟩
  obtain ⟨AD, cD, rfl, hD⟩ := own_is own1
  have HD := Lib.hid hD
  have HB1 := Lib.hid hb1
  clear CD own1 hD hb1
  have CR := Lib.hid (repeat_c w1.heap.size g.length (w1.alloc (.cells #[.int .i64 (-1)] 3)) (new_cellR _ _ _) hl24)
  rw [show (w1.alloc (.cells #[.int .i64 (-1)] 3)).heap.size = w1.heap.size + 1 from by simp] at CR
  go_wp2_with fail
  refine CR.out.mono ?_
  rintro e w2 ⟨rfl, own2, hb2⟩
  have HO2 : Hid (w2.ownsRow (w1.heap.size + 1) 3 1 (.slice (some ⟨w1.heap.size + 1, 0, none⟩) g.length g.length) g.length ((List.replicate g.length (-1 : Int)).map Iv)) := Lib.hid (by rw [List.map_replicate]; exact own2)
  have HB2 := Lib.hid ((below_alloc w1 (.cells #[.int .i64 (-1)] 3)).trans (hb2.mono (by simp)))
  clear own2 hb2 CR
  obtain ⟨G, hG⟩ : ∃ G, G = w1.heap.size + 1 := ⟨_, rfl⟩
  rw [← hG] at HO2 ⊢
  have HGG := Lib.hid hG
  clear hG
  have HN2 : Hid (hopsN g dist (List.replicate g.length (-1 : Int)) 0) := Lib.hid ⟨fun j hj => by omega, fun j _ h2 => by rw [List.getElem?_replicate, if_pos h2]⟩
  have hrl : (List.replicate g.length (-1 : Int)).length = g.length := by simp
  generalize List.replicate g.length (-1 : Int) = ones at *
  go_wp2
  go_loopw [9, 10, 21] (fun _ _ v wr => ∃ (k : Nat) (L : List Int), v = .int .i64 k ∧ k ≤ g.length ∧ Hid (L.length = g.length) ∧ Hid (hopsN g dist L k) ∧ Hid (wr.ownsRow G 3 1 (.slice (some ⟨G, 0, none⟩) g.length g.length) g.length (L.map Iv)) ∧ Hid (Below w1.heap.size w1 wr)) (fun _ _ v _ => g.length - (intOf v).toNat)
  case atStart => exact ⟨0, ones, rfl, Nat.zero_le _, Lib.hid hrl, HN2, HO2, HB2⟩
  case round =>
    clear HO2 HB2 HN2 hrl
    obtain ⟨k, L, rfl, hk, HLL, HN, HO, HB⟩ := hrel
    by_cases hlt : k < g.length
    · have hkd : k < dist.length := by have := HDL.out; omega
      obtain ⟨bd, od, rfl, ed⟩ := HD.out.iv hkd
      have hbd : bd < w1.heap.size := World.block_lt_of_cell? _ _ ed
      have edr : wr.cell? ⟨bd, od + k, none⟩ = some (.int .i64 dist[k]) := (HB.out.cell (p := ⟨bd, od + k, none⟩) hbd).trans ed
      have hgd : dist.getD k (-1) = dist[k] := by rw [List.getD_eq_getElem?_getD, List.getElem?_eq_getElem hkd]; rfl
      have hdb := HDB.out k
      rw [hgd] at hdb
      by_cases hpos : 0 < dist[k]
      · have hdec : decide (0 < dist[k]) = true := by simpa using hpos
        have hkO : k < O.length := by have := HOL.out; omega
        obtain ⟨bg, og, A1, c1, rfl, e1, h1⟩ := HH.out.one hkO
        have hbg : bg < w.heap.size := World.block_lt_of_cell? _ _ e1
        have e1r : wr.cell? ⟨bg, og + k, none⟩ = some (.slice A1 O[k].length c1) := (HB.out.cell (p := ⟨bg, og + k, none⟩) (by have := HB1.out.size; show bg < _; omega)).trans ((HB1.out.cell (p := ⟨bg, og + k, none⟩) hbg).trans e1)
        have hrl24 := HR.out _ (List.getElem_mem hkO)
        have hxx := HX.out k hkO
        have hrow := rowG_at hkO
        have CL := Lib.hid (leastAt_c A1 (some ⟨bd, od, none⟩) c1 cD O[k] dist (dist[k] - 1) wr ((h1.keep HB1.out).keep HB.out) (HD.out.keep HB.out) (fun x hx => by have := hxx x hx; have := HOL.out; have := HDL.out; omega) hrl24)
        have hp := HHop.out k hlt (by show 0 < dist.getD k (-1); omega)
        rw [show dAt dist k = dist[k] from hgd, hrow] at hp
        have HPut := Lib.hid (hopsN_put HN.out (by have := HLL.out; omega) hp)
        have HOS := Lib.hid (own_num_set HO.out k (leastAtF O[k] dist (dist[k] - 1)))
        obtain ⟨cu, hc1, hc2⟩ : ∃ cu, wr.cell? ⟨G, k, none⟩ = some (.int .i64 cu) ∧ wr.frozen? ⟨G, k, none⟩ = false := ⟨_, own_num HO.out k (by have := HLL.out; omega)⟩
        have HBS := Lib.hid (below_put (i := k) (v := .int .i64 (leastAtF O[k] dist (dist[k] - 1))) HB.out (by have := HGG.out; omega : w1.heap.size ≤ G))
        have HLS : Hid ((L.set k (leastAtF O[k] dist (dist[k] - 1))).length = g.length) := Lib.hid (by rw [List.length_set]; exact HLL.out)
        have hw1 : IntKind.i64.wrap (dist[k] - 1) = dist[k] - 1 := IntWalk.i64_in _ (by omega)
        rw [HDL.out] at CL
        clear hgd h1 hxx hp hrow e1 ed hpos HN HO HB HLL HD HDL
        generalize leastAtF O[k] dist (dist[k] - 1) = z at *
        generalize O[k] = r at *
        generalize dist[k] = dk at *
        go_wp2_with fail
        refine CL.out.mono ?_
        rintro e wx ⟨rfl, rfl⟩
        clear CL
        go_wp2
        go_roundw
        case rel => exact ⟨k + 1, _, by go_num, by omega, HLS, HPut, HOS, HBS⟩
        case measure => simp [intOf]; omega
      · have hdec : decide (0 < dist[k]) = false := by simpa using hpos
        have HNS := Lib.hid (hopsN_stay HN.out hlt (hopV_neg (by rw [hgd]; exact hpos)))
        clear hgd hpos HN
        generalize dist[k] = dk at *
        go_wp2
        go_roundw
        case rel => exact ⟨k + 1, L, by go_num, by omega, HLL, HNS, HO, HB⟩
        case measure => simp [intOf]; omega
    · obtain rfl : k = g.length := by omega
      have HF := Lib.hid (hopsTo_all HLL.out HN.out.1)
      go_wp2
      go_ret
      have hs1 := HB1.out.size
      exact ⟨_, rfl, ownsRow_base (by rw [← HF.out]; exact HO.out) (by have := HGG.out; omega), HB1.out.trans (HB.out.mono hs1)⟩
end Go.Proofs.Ytfgpenekmokdiaa
