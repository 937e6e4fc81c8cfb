/- Joined texts. -/
import Derived.Test.YtfgpenekmokdiaaMzAM
import Derived.Deep.RegionLaw
import Derived.Test.YtfgpenekmokdiaaMzAL
namespace Go.Proofs.Ytfgpenekmokdiaa
open Go Go.RowKit Fl

/-- Row i, when vertices before v are through, and m elements of v's row. -/
def woF (g : GraphD) (s : List Bool) (v m i : Nat) : List Int := if i < v then (if atB s i then [] else woRow s (rowG g i)) else if i = v then (if atB s v then [] else woRow s ((rowG g v).take m)) else []
theorem woF_start (g : GraphD) (s : List Bool) : rowsF g.length (woF g s 0 0) = List.replicate g.length [] := by
  rw [← rowsF_nil]
  refine rowsF_congr fun i _ => ?_
  unfold woF
  rw [if_neg (show ¬ i < 0 by omega)]
  split
  · split
    · rfl
    · simp [woRow]
  · rfl
theorem woF_next {g : GraphD} {s : List Bool} {v m : Nat} (hm : (rowG g v).length ≤ m) : rowsF g.length (woF g s v m) = rowsF g.length (woF g s (v + 1) 0) := by
  refine rowsF_congr fun i _ => ?_
  unfold woF
  by_cases h1 : i < v
  · rw [if_pos h1, if_pos (show i < v + 1 by omega)]
  · by_cases h2 : i = v
    · subst h2
      rw [if_neg h1, if_pos rfl, if_pos (show i < i + 1 by omega), List.take_of_length_le hm]
    · rw [if_neg h1, if_neg h2, if_neg (show ¬ i < v + 1 by omega)]
      split
      · split
        · rfl
        · simp [woRow]
      · rfl
theorem woF_end (g : GraphD) (s : List Bool) : rowsF g.length (woF g s g.length 0) = woG g s := by
  unfold woG rowsF
  refine List.map_congr_left fun i hi => ?_
  unfold woF
  rw [if_pos (List.mem_range.1 hi)]
theorem woF_skip {g : GraphD} {s : List Bool} {v m : Nat} (h : atB s v = true ∨ ∀ (hm : m < (rowG g v).length), atB s (rowG g v)[m].toNat = true) : rowsF g.length (woF g s v (m + 1)) = rowsF g.length (woF g s v m) := by
  refine rowsF_congr fun i _ => ?_
  unfold woF
  by_cases h1 : i < v
  · rw [if_pos h1, if_pos h1]
  · by_cases h2 : i = v
    · rw [if_neg h1, if_pos h2, if_neg h1, if_pos h2]
      rcases h with h | h
      · rw [if_pos h, if_pos h]
      · congr 1
        by_cases hm : m < (rowG g v).length
        · unfold woRow
          rw [List.take_succ_eq_append_getElem hm, List.filter_append]
          simp [h hm]
        · rw [List.take_of_length_le (by omega), List.take_of_length_le (by omega)]
    · rw [if_neg h1, if_neg h2, if_neg h1, if_neg h2]
theorem woF_put {g : GraphD} {s : List Bool} {v m : Nat} {x : Int} (hv : atB s v = false) (hm : m < (rowG g v).length) (hx : (rowG g v)[m] = x) (hs : atB s x.toNat = false) (hvg : v < (rowsF g.length (woF g s v m)).length) : (rowsF g.length (woF g s v m)).set v ((rowsF g.length (woF g s v m))[v] ++ [x]) = rowsF g.length (woF g s v (m + 1)) := by
  rw [rowsF_at]
  refine rowsF_set ?_ fun i hi => ?_
  · unfold woF
    rw [if_neg (show ¬ v < v by omega), if_pos rfl, if_neg (show ¬ v < v by omega), if_pos rfl, hv]
    unfold woRow
    rw [List.take_succ_eq_append_getElem hm, List.filter_append, hx]
    simp [hs]
  · unfold woF
    by_cases h1 : i < v
    · rw [if_pos h1, if_pos h1]
    · rw [if_neg h1, if_neg hi, if_neg h1, if_neg hi]
/-- What Without returns. -/
def WoPost (w : World) (l : GraphD) (k : Int) (e : Ending) (w' : World) : Prop := ∃ u, e = .returned (.tuple #[u, .int .i64 k]) ∧ RowsOwn w' w.heap.size u l ∧ Below w.heap.size w w'
def woL (g : GraphD) (s : List Bool) : GraphD := if chkG g s.length = 0 then woG g s else []
theorem rowsOwn_nil (w : World) (base : Nat) : RowsOwn w base (.slice none 0 0) [] := ⟨[], rfl, World.ownsRow_nil _ _ _ _, fun k u r h => by simp at h⟩
theorem woF_short {g : GraphD} {s : List Bool} (hg : validG g = true) (v m i : Nat) : (woF g s v m i).length ≤ 24 := by
  have key : ∀ j, (rowG g j).length ≤ 24 := fun j => by
    rcases Nat.lt_or_ge j g.length with h | h
    · rw [rowG_at h]; exact validG_short hg _ (List.getElem_mem h)
    · rw [rowG_out h]; simp
  unfold woF
  split
  · split
    · simp
    · exact Nat.le_trans (List.length_filter_le _ _) (key i)
  · split
    · split
      · simp
      · exact Nat.le_trans (List.length_filter_le _ _) (Nat.le_trans (List.length_take_le' _ _) (key v))
    · simp
theorem size_alloc_drew {w : World} {B : Nat} (h : B ≤ w.heap.size) (o : Obj) : B ≤ ((w.alloc o).drew).heap.size := by
  have e : (w.alloc o).heap.size = w.heap.size + 1 := by simp
  show B ≤ (w.alloc o).heap.size
  omega
end Go.Proofs.Ytfgpenekmokdiaa
namespace Go.Proofs.Ytfgpenekmokdiaa
open Go Go.RowKit Fl

/-- Row x, when vertices before v are through, and m elements of v's row. -/
def revF (g : GraphD) (v m x : Nat) : List Int := intoK g v x ++ (if (x : Int) ∈ (rowG g v).take m then [(v : Int)] else [])
theorem intoK_succ (g : GraphD) (v x : Nat) : intoK g (v + 1) x = intoK g v x ++ (if (x : Int) ∈ rowG g v then [(v : Int)] else []) := by
  unfold intoK
  rw [List.range_succ, List.filter_append, List.map_append]
  congr 1
  by_cases h : (x : Int) ∈ rowG g v
  · simp [h]
  · simp [h]
theorem intoK_short (g : GraphD) (v x : Nat) : (intoK g v x).length ≤ v := by
  unfold intoK
  rw [List.length_map]
  exact Nat.le_trans (List.length_filter_le _ _) (by simp)
theorem revF_start (g : GraphD) : rowsF g.length (revF g 0 0) = List.replicate g.length [] := by
  rw [← rowsF_nil]
  exact rowsF_congr fun i _ => by simp [revF, intoK]
theorem revF_next {g : GraphD} {v m : Nat} (hm : (rowG g v).length ≤ m) : rowsF g.length (revF g v m) = rowsF g.length (revF g (v + 1) 0) := by
  refine rowsF_congr fun i _ => ?_
  unfold revF
  rw [intoK_succ, List.take_of_length_le hm]
  simp
theorem revF_end (g : GraphD) : rowsF g.length (revF g g.length 0) = revG g := by
  unfold revG rowsF
  exact List.map_congr_left fun i _ => by simp [revF]
theorem revF_put {g : GraphD} {v m y : Nat} (hg : validG g = true) (hv : v < g.length) (hm : m < (rowG g v).length) (hx : (rowG g v)[m] = (y : Int)) (hyg : y < (rowsF g.length (revF g v m)).length) : (rowsF g.length (revF g v m)).set y ((rowsF g.length (revF g v m))[y] ++ [(v : Int)]) = rowsF g.length (revF g v (m + 1)) := by
  rw [rowsF_at]
  have hs : (rowG g v).Pairwise (· < ·) := by rw [rowG_at hv]; exact validG_sorted' hg hv
  refine rowsF_set ?_ fun i hi => ?_
  · unfold revF
    have hn : (y : Int) ∉ (rowG g v).take m := fun h => by
      obtain ⟨j, hj, e⟩ := List.mem_iff_getElem.1 h
      rw [List.getElem_take] at e
      have hjm : j < m := by rw [List.length_take] at hj; omega
      have := List.pairwise_iff_getElem.1 hs j m (by omega) hm hjm
      omega
    rw [List.take_succ_eq_append_getElem hm, hx, if_neg hn, if_pos (by simp)]
    simp
  · unfold revF
    rw [List.take_succ_eq_append_getElem hm, hx]
    have hne : (i : Int) ≠ y := by omega
    congr 1
    by_cases h : (i : Int) ∈ (rowG g v).take m
    · rw [if_pos h, if_pos (by simp [h])]
    · rw [if_neg h, if_neg (by simp [h, hne])]
theorem revF_short (g : GraphD) (v m x : Nat) : (revF g v m x).length ≤ v + 1 := by
  unfold revF
  have := intoK_short g v x
  rw [List.length_append]
  split <;> simp <;> omega
def revL (g : GraphD) : GraphD := if validG g then revG g else []
def revE (g : GraphD) : Int := if validG g then 0 else 20
end Go.Proofs.Ytfgpenekmokdiaa
namespace Go.Proofs.Ytfgpenekmokdiaa
open Go Go.RowKit Fl

def FromRes (w : World) (l : List Bool) (k : Int) (e : Ending) (w' : World) : Prop := ∃ A c, e = .returned (.tuple #[.slice A l.length c, .int .i64 k]) ∧ Holds w' A (l.map Bo) ∧ Below w.heap.size w w'
def GraphRes (w : World) (l : GraphD) (k : Int) (e : Ending) (w' : World) : Prop := ∃ A c, e = .returned (.tuple #[.slice A l.length c, .int .i64 k]) ∧ RowsAt w' A l ∧ Below w.heap.size w w'
def Sized (g : GraphD) : Prop := g.length ≤ 1000000000000000000 ∧ ∀ r ∈ g, r.length ≤ 1000000000000000000
theorem Sized.valid {g : GraphD} (h : validG g = true) : Sized g := ⟨by have := validG_len h; omega, fun r hr => by have := validG_short h r hr; omega⟩
def DevFrom : Prop := ∀ (A B : Option Addr) (c d : Nat) (g : GraphD) (s : List Bool) (v : Int) (w : World), RowsAt w A g → Holds w B (s.map Bo) → Sized g →
  Calls Try.prog 31 #[.slice A g.length c, .slice B s.length d, .int .i64 v] w (FromRes w (fromL g s v) (fromE g s.length v))
def DevValid : Prop := ∀ (A : Option Addr) (c : Nat) (g : GraphD) (w : World), RowsAt w A g → Sized g →
  Calls Try.prog 47 #[.slice A g.length c] w fun e w' => e = .returned (.bool (validG g)) ∧ Below w.heap.size w w'
def DevReverse : Prop := ∀ (A : Option Addr) (c : Nat) (g : GraphD) (w : World), RowsAt w A g → Sized g →
  Calls Try.prog 72 #[.slice A g.length c] w (GraphRes w (revL g) (revE g))
def DevWithout : Prop := ∀ (A B : Option Addr) (c d : Nat) (g : GraphD) (s : List Bool) (w : World), RowsAt w A g → Holds w B (s.map Bo) → Sized g →
  Calls Try.prog 71 #[.slice A g.length c, .slice B s.length d] w (GraphRes w (woL g s) (chkG g s.length))
end Go.Proofs.Ytfgpenekmokdiaa
namespace Go.Proofs.Ytfgpenekmokdiaa
open Go Go.RowKit Fl

/-- What place returns. -/
def PlaceRes (g : GraphD) (ts ws : List Int) (e : Ending) : Prop := ∃ B : List Int, e = .returned (.tuple #[.agg (bdC B), .bool (posB g ts ws)]) ∧ B.length = 24 ∧ (posB g ts ws = true → B = bdL ts)
theorem placeRes_bad {g : GraphD} {ts ws B : List Int} (h : posB g ts ws = false) (hB : B.length = 24) : PlaceRes g ts ws (.returned (.tuple #[.agg (bdC B), .bool false])) := ⟨B, by rw [h], hB, fun h2 => by rw [h] at h2; cases h2⟩
theorem placeRes_ok {g : GraphD} {ts ws : List Int} (h : posB g ts ws = true) : PlaceRes g ts ws (.returned (.tuple #[.agg (bdC (bdL ts)), .bool true])) := ⟨bdL ts, by rw [h], bdL_length _, fun _ => rfl⟩
/-- Two results, the first one in a row. -/
theorem results_row2 {P : Program} {fn : Func} {p q : Tmp} {ty : TypeId} (h : fn.results = #[.cell p ty, .tmp q]) (tmps : Array Value) (w : World) (g : Nat) (t : TypeId) (cs : Array Value) (fr : Nat × Nat) (d : TypeDesc)
    (hp : tmps.getD p undef = .pointer (some ⟨g, 0, none⟩)) (hg : w.heap[g]? = some (.cells cs t fr))
    (hu : P.underlying ty = some d) (hd : (match d with | .struct _ | .array _ _ => true | _ => false) = true) (hi : (P.info? ty).map (·.size) = some cs.size) :
    (results fn tmps).run P w = .ok (.tuple #[.agg cs, tmps.getD q undef]) w := by
  have hp' : tmps[p]?.getD undef = .pointer (some ⟨g, 0, none⟩) := by simpa using hp
  simp [results, h, hp', asAddr, run_loadVar_row w g t ty cs fr d hg hu hd hi]
theorem place_ret {W : World} {G : Nat} {B B0 : List Int} (h : BdAt W G B0) (hB : B.length = 24) (k : Value) (tmps : Array Value) (hp : tmps.getD 6 undef = .pointer (some ⟨G, 0, none⟩)) (hk : tmps.getD 7 undef = k) :
    (results Try.f35 tmps).run Try.prog (W.setRow G (bdC B)) = .ok (.tuple #[.agg (bdC B), k]) (W.setRow G (bdC B)) := by
  subst hk
  have hrw : ((W.setRow G (bdC B))).heap[G]? = some (.cells (bdC B) 58 (0, 0)) := h.row (B' := B)
  exact results_row2 rfl _ _ G 58 (bdC B) (0, 0) _ hp hrw Try.undB rfl (sizeBl hB)
set_option maxRecDepth 100000 in
set_option maxHeartbeats 8000000 in
theorem place_c (A A1 A2 : Option Addr) (c c1 c2 : Nat) (g : GraphD) (ts ws : List Int) (w : World) (hh : RowsAt w A g) (h1 : Holds w A1 (ts.map Iv)) (h2 : Holds w A2 (ws.map Iv)) (hz : Sized g) :
    Calls Try.prog 35 #[.slice A g.length c, .slice A1 ts.length c1, .slice A2 ws.length c2] w fun e w' => PlaceRes g ts ws e ∧ Below w.heap.size w w' := by
  have HG := Lib.hid hh
  have H1 := Lib.hid h1
  have H2 := Lib.hid h2
  have HZ := Lib.hid hz
  have HR0 := Lib.hid (board_new w)
  have HB0 := Lib.hid ((Below.refl _ w).alloc (Nat.le_refl _) (.cells #[.int .i64 0, .int .i64 0, .int .i64 0, .int .i64 0, .int .i64 0, .int .i64 0, .int .i64 0, .int .i64 0, .int .i64 0, .int .i64 0, .int .i64 0, .int .i64 0, .int .i64 0, .int .i64 0, .int .i64 0, .int .i64 0, .int .i64 0, .int .i64 0, .int .i64 0, .int .i64 0, .int .i64 0, .int .i64 0, .int .i64 0, .int .i64 0] 58))
  have hs0 : (w.alloc (.cells #[.int .i64 0, .int .i64 0, .int .i64 0, .int .i64 0, .int .i64 0, .int .i64 0, .int .i64 0, .int .i64 0, .int .i64 0, .int .i64 0, .int .i64 0, .int .i64 0, .int .i64 0, .int .i64 0, .int .i64 0, .int .i64 0, .int .i64 0, .int .i64 0, .int .i64 0, .int .i64 0, .int .i64 0, .int .i64 0, .int .i64 0, .int .i64 0] 58)).heap.size = w.heap.size + 1 := by simp
  have CE := Lib.hid (emptyBoard_c (w.alloc (.cells #[.int .i64 0, .int .i64 0, .int .i64 0, .int .i64 0, .int .i64 0, .int .i64 0, .int .i64 0, .int .i64 0, .int .i64 0, .int .i64 0, .int .i64 0, .int .i64 0, .int .i64 0, .int .i64 0, .int .i64 0, .int .i64 0, .int .i64 0, .int .i64 0, .int .i64 0, .int .i64 0, .int .i64 0, .int .i64 0, .int .i64 0, .int .i64 0] 58)))
  clear hh h1 h2 hz
  go_enter Try.func35, Try.ntmps35
  go_wp2_with fail
  refine CE.out.mono ?_
  rintro e w1 ⟨rfl, hb1⟩
  rw [hs0] at hb1
  obtain ⟨G, hG⟩ : ∃ G, G = w.heap.size := ⟨_, rfl⟩
  rw [← hG] at HR0 HB0 hs0 hb1 ⊢
  have HGG := Lib.hid hG
  have HR1 := Lib.hid (HR0.out.keep hb1 (Nat.lt_succ_self G))
  have HB1 := Lib.hid (HB0.out.trans (hb1.mono (Nat.le_succ G)))
  have hs1 : G + 1 ≤ w1.heap.size := by have := hb1.size; omega
  clear hG hb1 HR0 HB0 hs0 CE
  have HR2 := Lib.hid ((HR1.out.alloc (.cells #[.int .i64 0, .int .i64 0, .int .i64 0, .int .i64 0, .int .i64 0, .int .i64 0, .int .i64 0, .int .i64 0, .int .i64 0, .int .i64 0, .int .i64 0, .int .i64 0, .int .i64 0, .int .i64 0, .int .i64 0, .int .i64 0, .int .i64 0, .int .i64 0, .int .i64 0, .int .i64 0, .int .i64 0, .int .i64 0, .int .i64 0, .int .i64 0] 58)).rowOther (H := w1.heap.size) (c := bdC (bdL [])) (by omega))
  have HN2 := Lib.hid ((board_new w1).row (B' := bdL []))
  have HB2 := Lib.hid (below_rowZ (G := w1.heap.size) (HB1.out.alloc (by omega) (.cells #[.int .i64 0, .int .i64 0, .int .i64 0, .int .i64 0, .int .i64 0, .int .i64 0, .int .i64 0, .int .i64 0, .int .i64 0, .int .i64 0, .int .i64 0, .int .i64 0, .int .i64 0, .int .i64 0, .int .i64 0, .int .i64 0, .int .i64 0, .int .i64 0, .int .i64 0, .int .i64 0, .int .i64 0, .int .i64 0, .int .i64 0, .int .i64 0] 58)) (by omega) (bdC (bdL [])))
  have HNw := Lib.hid (board_new w1)
  clear HR1 HB1
  go_wp2_with (first | refine store_board rfl _ _ rfl _ rfl rfl HNw.out (by simp) (bdL_length _) ?_)
  clear HNw
  generalize (w1.alloc (.cells #[.int .i64 0, .int .i64 0, .int .i64 0, .int .i64 0, .int .i64 0, .int .i64 0, .int .i64 0, .int .i64 0, .int .i64 0, .int .i64 0, .int .i64 0, .int .i64 0, .int .i64 0, .int .i64 0, .int .i64 0, .int .i64 0, .int .i64 0, .int .i64 0, .int .i64 0, .int .i64 0, .int .i64 0, .int .i64 0, .int .i64 0, .int .i64 0] 58)).setRow w1.heap.size (bdC (bdL [])) = w2 at *
  generalize w1.heap.size = P at *
  clear w1
  have HG2 := Lib.hid (HG.out.keep (HGG.out ▸ HB2.out))
  have CV := Lib.hid (devValid_c A c g w2 HG2.out HZ.out.1 HZ.out.2)
  go_wp2_with fail
  refine CV.out.mono ?_
  rintro e w3 ⟨rfl, rfl⟩
  clear CV HG2
  rcases hv : validG g with _ | _
  · have HE := Lib.hid (posB_graph (ts := ts) (ws := ws) hv)
    clear hv
    go_wp2_with (first | refine load_board rfl _ rfl _ rfl HN2.out (bdL_length _) ?_ | refine store_board rfl _ _ rfl _ rfl rfl HR2.out (by simp) (bdL_length _) ?_)
    refine bodyPost_ret (place_ret HR2.out (bdL_length _) _ _ rfl rfl) rfl ⟨placeRes_bad HE.out (bdL_length _), ?_⟩
    exact HGG.out ▸ below_rowZ HB2.out (Nat.le_refl _) _
  · by_cases hlen : ts.length = ws.length
    · have HV := Lib.hid hv
      have HLen := Lib.hid hlen
      have hbl : ((ts.length : Int) != (ws.length : Int)) = false := by rw [hlen]; simp
      have HN20 : Hid (BdAt w2 P (bdL (ts.take 0))) := Lib.hid (by rw [List.take_zero]; exact HN2.out)
      clear hv hlen HN2
      go_wp2
      clear hbl
      go_loopw [25] (fun i wr => ∃ k : Nat, i = .int .i64 k ∧ k ≤ ts.length ∧ Hid (okK g ts ws k) ∧ Hid (BdAt wr P (bdL (ts.take k))) ∧ Hid (BdAt wr G (List.replicate 24 0)) ∧ Hid (Below G w wr)) (fun i _ => ts.length - (intOf i).toNat)
      case atStart => exact ⟨0, rfl, Nat.zero_le _, Lib.hid (fun i h => by omega), HN20, HR2, HB2⟩
      case round =>
        clear HN20 HR2 HB2
        obtain ⟨k, rfl, hk, HK, HN, HR, HB⟩ := hrel
        have HBw : Hid (Below w.heap.size w wr) := Lib.hid (HGG.out ▸ HB.out)
        by_cases hlt : k < ts.length
        · have hlw : k < ws.length := by rw [← HLen.out]; exact hlt
          have HT := Lib.hid (tok_at (g := g) hlt hlw)
          have HF := Lib.hid (HK.out.facts HV.out hk)
          have HBad := Lib.hid (fun h : ¬ tokB g ts ws k = true => posB_bad (g := g) (ws := ws) hlt h)
          have HGo := Lib.hid (fun h : tokB g ts ws k = true => HK.out.more h)
          have HTk : Hid (ts.take (k + 1) = ts.take k ++ [ts[k]]) := Lib.hid (by rw [List.take_succ_eq_append_getElem hlt])
          have hkl : (ts.take k).length = k := by rw [List.length_take]; omega
          have HKl := Lib.hid hkl
          have hk24 : k ≤ 24 := HF.out.2.2
          obtain ⟨b1, o1, rfl, e1⟩ := (H1.out.keep HBw.out).iv hlt
          obtain ⟨b2, o2, rfl, e2⟩ := (H2.out.keep HBw.out).iv hlw
          clear HK hkl
          generalize ws[k] = y at *
          generalize ts[k] = x at *
          have CI := Lib.hid (isVertex_c A g.length c x wr)
          by_cases hin : 0 ≤ x ∧ x < g.length
          · rw [decide_eq_true hin] at CI
            obtain ⟨xn, rfl⟩ := Int.eq_ofNat_of_zero_le hin.1
            have hxg : xn < g.length := by omega
            have hx24 : xn < 24 := by have := validG_len HV.out; omega
            obtain ⟨cu, c1', f1⟩ : ∃ z : Int, wr.cell? ⟨P, xn, none⟩ = some (.int .i64 z) ∧ z = onF (ts.take k) xn := ⟨_, by
              have h := (HN.out.cell (k := xn) (by rw [bdL_length]; exact hx24)).1
              have h2 := bdL_at (ts := ts.take k) hx24
              rw [List.getElem?_eq_getElem (by rw [bdL_length]; exact hx24)] at h2
              injection h2 with h2
              rw [h, h2], rfl⟩
            by_cases hfr : cu = -1
            · subst hfr
              obtain ⟨bg, og, A3, c3, rfl, e3, h3⟩ := (HG.out.keep HBw.out).one hxg
              have h3l := HZ.out.2 _ (List.getElem_mem hxg)
              have h24r := validG_short HV.out _ (List.getElem_mem hxg)
              rw [Int.toNat_natCast, rowG_at hxg] at HT
              have CR := Lib.hid (fun (m : Nat) (z : Int) => contains_c A3 c3 g[xn] z (wr.drewN m) (h3.drewN m) h24r)
              have HFr := Lib.hid (onF_iff.1 f1.symm)
              have hG : Hid ((xn : Int) ∉ ts.take k ∧ onF (ts.take k) (xn : Int) = -1) := Lib.hid ⟨HFr.out, f1.symm⟩
              obtain ⟨cv, c4, f4⟩ : ∃ cv, wr.cell? ⟨P, xn, none⟩ = some cv ∧ wr.frozen? ⟨P, xn, none⟩ = false := ⟨_, HN.out.cell (k := xn) (by rw [bdL_length]; exact hx24)⟩
              clear h3 f1 c4
              generalize g[xn] = row at *
              have HNd : Hid (∀ m, BdAt (wr.drewN m) P (bdL (ts.take k))) := Lib.hid (fun m => ArrD.same HN.out rfl)
              have HRd : Hid (∀ m, BdAt (wr.drewN m) G (List.replicate 24 0)) := Lib.hid (fun m => ArrD.same HR.out rfl)
              have HBd : Hid (∀ m, Below G w (wr.drewN m)) := Lib.hid (fun m => below_drewN HB.out m)
              have HNs : Hid (∀ m, BdAt ((wr.drewN m).setCell ⟨P, xn, none⟩ (.int .i64 (k : Int))) P (bdL (ts.take (k + 1)))) := Lib.hid (fun m => by
                have h := (HNd.out m).set xn (k : Int)
                have h2 := bdL_add HFr.out
                rw [HKl.out] at h2
                rwa [h2, ← HTk.out] at h)
              have HRs : Hid (∀ m, BdAt ((wr.drewN m).setCell ⟨P, xn, none⟩ (.int .i64 (k : Int))) G (List.replicate 24 0)) := Lib.hid (fun m => (HRd.out m).put (by omega))
              have HBs : Hid (∀ m, Below G w ((wr.drewN m).setCell ⟨P, xn, none⟩ (.int .i64 (k : Int)))) := Lib.hid (fun m => below_put (HBd.out m) (by omega))
              clear HN HR HB
              by_cases hy : y = -1
              · have HO := Lib.hid (HGo.out (HT.out.2 ⟨hin, hG.out.2, .inl hy⟩))
                subst hy
                clear HT HGo HBad hin
                go_wp2_with fail
                refine CI.out.mono ?_
                rintro e w3 ⟨rfl, rfl⟩
                clear CI CR
                go_wp2_with fail
                go_quiet (fail)
                go_wp2
                go_roundw
                case rel => exact ⟨k + 1, by go_num, by omega, HO, Lib.hid (HNs.out _), Lib.hid (HRs.out _), Lib.hid (HBs.out _)⟩
                case measure => simp [intOf]; omega
              · have hy1 : (y == -1) = false := by simpa using hy
                have hyn : (y != -1) = true := by simpa using hy
                by_cases hm : y ∈ row
                · have HO := Lib.hid (HGo.out (HT.out.2 ⟨hin, hG.out.2, .inr hm⟩))
                  have C1 : Hid (∀ m, Calls Try.prog 60 #[.slice A3 row.length c3, .int .i64 y] (wr.drewN m) fun e w' => e = .returned (.bool true) ∧ w' = wr.drewN m) := Lib.hid (fun m => by
                    have h := CR.out m y
                    rwa [decide_eq_true hm] at h)
                  clear HT HGo HBad hin CR hm hG
                  go_wp2_with fail
                  refine CI.out.mono ?_
                  rintro e w3 ⟨rfl, rfl⟩
                  clear CI
                  go_wp2_with fail
                  go_quiet (first | (go_at_call 60; with_reducible exact Calls.quiet_of_same (C1.out _)))
                  go_wp2
                  go_roundw
                  case rel => exact ⟨k + 1, by go_num, by omega, HO, Lib.hid (HNs.out _), Lib.hid (HRs.out _), Lib.hid (HBs.out _)⟩
                  case measure => simp [intOf]; omega
                · have HE := Lib.hid (HBad.out fun h => by
                    rcases (HT.out.1 h).2.2 with h1 | h1
                    · exact hy h1
                    · exact hm h1)
                  have C1 : Hid (∀ m, Calls Try.prog 60 #[.slice A3 row.length c3, .int .i64 y] (wr.drewN m) fun e w' => e = .returned (.bool false) ∧ w' = wr.drewN m) := Lib.hid (fun m => by
                    have h := CR.out m y
                    rwa [decide_eq_false hm] at h)
                  clear HT HGo HBad hin CR hm hG
                  go_wp2_with fail
                  refine CI.out.mono ?_
                  rintro e w3 ⟨rfl, rfl⟩
                  clear CI
                  go_wp2_with fail
                  go_quiet (first | (go_at_call 60; with_reducible exact Calls.quiet_of_same (C1.out _)))
                  go_wp2_with (first | refine load_board rfl _ rfl _ rfl (HNd.out _) (bdL_length _) ?_ | refine store_board rfl _ _ rfl _ rfl rfl (HRd.out _) (by simp) (bdL_length _) ?_)
                  refine bodyPost_ret (place_ret (HRd.out _) (bdL_length _) _ _ rfl rfl) rfl ⟨placeRes_bad HE.out (bdL_length _), ?_⟩
                  exact HGG.out ▸ below_rowZ (HBd.out _) (Nat.le_refl _) _
            · have HE := Lib.hid (HBad.out fun h => by
                have h2 := (HT.out.1 h).2.1
                exact hfr (f1.trans h2))
              have hne : (cu != -1) = true := by simpa using hfr
              clear HT HF HGo HBad f1 hfr
              go_wp2_with fail
              refine CI.out.mono ?_
              rintro e w3 ⟨rfl, rfl⟩
              clear CI
              go_wp2_with (first | refine load_board rfl _ rfl _ rfl HN.out (bdL_length _) ?_ | refine store_board rfl _ _ rfl _ rfl rfl HR.out (by simp) (bdL_length _) ?_)
              refine bodyPost_ret (place_ret HR.out (bdL_length _) _ _ rfl rfl) rfl ⟨placeRes_bad HE.out (bdL_length _), ?_⟩
              exact HGG.out ▸ below_rowZ HB.out (Nat.le_refl _) _
          · have HE := Lib.hid (HBad.out fun h => hin (HT.out.1 h).1)
            rw [decide_eq_false hin] at CI
            clear HT HF HGo HBad
            go_wp2_with fail
            refine CI.out.mono ?_
            rintro e w3 ⟨rfl, rfl⟩
            clear CI
            go_wp2_with (first | refine load_board rfl _ rfl _ rfl HN.out (bdL_length _) ?_ | refine store_board rfl _ _ rfl _ rfl rfl HR.out (by simp) (bdL_length _) ?_)
            refine bodyPost_ret (place_ret HR.out (bdL_length _) _ _ rfl rfl) rfl ⟨placeRes_bad HE.out (bdL_length _), ?_⟩
            exact HGG.out ▸ below_rowZ HB.out (Nat.le_refl _) _
        · obtain rfl : k = ts.length := by omega
          have HE := Lib.hid (posB_ok HV.out HLen.out HK.out)
          have HNe : Hid (BdAt wr P (bdL ts)) := Lib.hid (by have h := HN.out; rwa [List.take_length] at h)
          clear HN HK
          go_wp2_with (first | refine load_board rfl _ rfl _ rfl HNe.out (bdL_length _) ?_ | refine store_board rfl _ _ rfl _ rfl rfl HR.out (by simp) (bdL_length _) ?_)
          refine bodyPost_ret (place_ret HR.out (bdL_length _) _ _ rfl rfl) rfl ⟨placeRes_ok HE.out, ?_⟩
          exact HGG.out ▸ below_rowZ HB.out (Nat.le_refl _) _
    · have HE := Lib.hid (posB_len (g := g) hlen)
      have hbl : ((ts.length : Int) != (ws.length : Int)) = true := by rw [bne_iff_ne]; omega
      clear hv
      go_wp2_with (first | refine load_board rfl _ rfl _ rfl HN2.out (bdL_length _) ?_ | refine store_board rfl _ _ rfl _ rfl rfl HR2.out (by simp) (bdL_length _) ?_)
      refine bodyPost_ret (place_ret HR2.out (bdL_length _) _ _ rfl rfl) rfl ⟨placeRes_bad HE.out (bdL_length _), ?_⟩
      exact HGG.out ▸ below_rowZ HB2.out (Nat.le_refl _) _
set_option maxHeartbeats 1000000 in
theorem devValidT_c (A A1 A2 : Option Addr) (c c1 c2 : Nat) (g : GraphD) (ts ws : List Int) (w : World) (hh : RowsAt w A g) (h1 : Holds w A1 (ts.map Iv)) (h2 : Holds w A2 (ws.map Iv)) (hz : Sized g) :
    Calls Try.prog 17 #[.slice A g.length c, .slice A1 ts.length c1, .slice A2 ws.length c2] w fun e w' => e = .returned (.bool (posB g ts ws)) ∧ Below w.heap.size w w' := by
  have CP := Lib.hid (place_c A A1 A2 c c1 c2 g ts ws w hh h1 h2 hz)
  clear hh h1 h2 hz
  go_enter Try.func17, Try.ntmps17
  go_wp2_with fail
  refine CP.out.mono ?_
  rintro e w1 ⟨⟨B, rfl, hBl, _⟩, hb⟩
  have HNw := Lib.hid (board_new w1)
  have HB := Lib.hid (below_rowZ (G := w1.heap.size) (hb.alloc hb.size (.cells #[.int .i64 0, .int .i64 0, .int .i64 0, .int .i64 0, .int .i64 0, .int .i64 0, .int .i64 0, .int .i64 0, .int .i64 0, .int .i64 0, .int .i64 0, .int .i64 0, .int .i64 0, .int .i64 0, .int .i64 0, .int .i64 0, .int .i64 0, .int .i64 0, .int .i64 0, .int .i64 0, .int .i64 0, .int .i64 0, .int .i64 0, .int .i64 0] 58)) hb.size (bdC B))
  clear hb CP
  go_wp2_with (first | refine store_board rfl _ _ rfl _ rfl rfl HNw.out (by simp) hBl ?_)
  go_ret
  exact ⟨rfl, HB.out⟩
end Go.Proofs.Ytfgpenekmokdiaa
