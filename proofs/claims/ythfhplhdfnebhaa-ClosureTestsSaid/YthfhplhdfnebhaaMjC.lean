/- Joined texts. -/
import Derived.Test.YthfhplhdfnebhaaGrValid
import Derived.Test.YthfhplhdfnebhaaMjA
import Derived.Laws.Rows
import Derived.Laws.Tables
import Derived.Lib.SliceRun
import Derived.Laws.StructEq
import Derived.Deep.MidRow
import Derived.Deep.RegionWith
namespace Go.Proofs.Ythfhplhdfnebhaa
open Go Go.RowKit Fl

/-- What the code keeps in 'last', when the first j elements are through. -/
def LastAt (r : List Int) (j : Nat) (L : Int) : Prop := (prevOf r j = none ∧ L = -1) ∨ (prevOf r j = some L ∧ 0 ≤ L)
theorem LastAt.start (r : List Int) : LastAt r 0 (-1) := .inl ⟨rfl, rfl⟩
theorem LastAt.next {r : List Int} {j : Nat} (hj : j < r.length) (h0 : 0 ≤ r[j]) : LastAt r (j + 1) r[j] := .inr ⟨by simp [prevOf, hj], h0⟩
theorem LastAt.test {r : List Int} {j : Nat} {L x n v : Int} (h : LastAt r j L) : (decide (0 ≤ x ∧ x < n ∧ x ≠ v) && overP (prevOf r j) x) = decide (L < x ∧ x < n ∧ x ≠ v) := by
  rcases h with ⟨h, rfl⟩ | ⟨h, h0⟩
  · rw [h]
    simp only [overP, Bool.and_true]
    exact decide_eq_decide.2 ⟨fun h => ⟨by omega, h.2⟩, fun h => ⟨by omega, h.2⟩⟩
  · rw [h]
    simp only [overP, ← Bool.decide_and]
    exact decide_eq_decide.2 ⟨fun h => ⟨h.2, h.1.2⟩, fun h => ⟨⟨by omega, h.2⟩, h.1⟩⟩
set_option maxRecDepth 100000 in
set_option maxHeartbeats 2000000 in
theorem devEdges_c (A : Option Addr) (c n k : Nat) (r : List Int) (w : World) (hh : Holds w A (r.map Iv)) (hl : r.length ≤ 1000000000000000000) :
    Calls Try.prog 57 #[.slice A r.length c, .int .i64 k, .int .i64 n] w fun e w' => e = .returned (.bool (rowOk n k none r)) ∧ w = w' := by
  have HH := Lib.hid hh
  clear hh
  go_enter Try.func57, Try.ntmps57
  go_wp2
  go_loop [7, 12] (fun l i => ∃ (j : Nat) (L : Int), j ≤ r.length ∧ l = .int .i64 L ∧ i = .int .i64 j ∧ Hid (LastAt r j L) ∧ Hid (rowOk n k none r = rowOk n k (prevOf r j) (r.drop j))) (fun _ i => r.length - (intOf i).toNat)
  case atStart => exact ⟨0, -1, Nat.zero_le _, rfl, rfl, Lib.hid (.start r), Lib.hid rfl⟩
  case round =>
    obtain ⟨j, L, hj, rfl, rfl, HL, HV⟩ := hrel
    by_cases hjt : j < r.length
    · obtain ⟨b, o, rfl, e1⟩ := HH.out.iv hjt
      have HS : Hid (rowOk n k none r = (decide (L < r[j] ∧ r[j] < n ∧ r[j] ≠ k) && rowOk n k (prevOf r (j + 1)) (r.drop (j + 1)))) := Lib.hid (by rw [HV.out, rowOk_step hjt, HL.out.test])
      have HN := Lib.hid (fun h => LastAt.next hjt h)
      have HLow : -1 ≤ L := by rcases HL.out with ⟨_, h⟩ | ⟨_, h⟩ <;> omega
      clear HL HV
      by_cases hin : L < r[j] ∧ r[j] < n ∧ r[j] ≠ k
      · have HV2 : Hid (rowOk n k none r = rowOk n k (prevOf r (j + 1)) (r.drop (j + 1))) := Lib.hid (by rw [HS.out, decide_eq_true hin, Bool.true_and])
        obtain ⟨h0, h1, h2⟩ := hin
        have HN2 := Lib.hid (HN.out (by omega))
        have hd1 : decide (r[j] ≤ L) = false := by simp; omega
        have hd2 : decide ((n : Int) ≤ r[j]) = false := by simp; omega
        have hd3 : (r[j] == (k : Int)) = false := by simpa using h2
        clear HS HN h0 h1 h2 HLow
        generalize r[j] = x at *
        go_wp2
        go_round
        case rel => exact ⟨j + 1, x, by omega, rfl, by go_num, HN2, HV2⟩
        case measure => simp [intOf]; omega
      · have HV2 : Hid (rowOk n k none r = false) := Lib.hid (by rw [HS.out, decide_eq_false hin, Bool.false_and])
        have hor : decide (r[j] ≤ L) = true ∨ decide (r[j] ≤ L) = false ∧ decide ((n : Int) ≤ r[j]) = true ∨ decide (r[j] ≤ L) = false ∧ decide ((n : Int) ≤ r[j]) = false ∧ (r[j] == (k : Int)) = true := by
          simp only [decide_eq_true_eq, decide_eq_false_iff_not, beq_iff_eq]
          omega
        clear HS HN hin HLow
        generalize r[j] = x at *
        rcases hor with hd1 | ⟨hd1, hd2⟩ | ⟨hd1, hd2, hd3⟩
        all_goals
          go_wp2
          go_ret
          exact ⟨gr_bool HV2.out.symm, rfl⟩
    · have HV2 : Hid (rowOk n k none r = true) := Lib.hid (by rw [HV.out, rowOk_end (by omega)])
      clear HV HL
      go_wp2
      go_ret
      exact ⟨gr_bool HV2.out.symm, rfl⟩
set_option maxRecDepth 100000 in
set_option maxHeartbeats 2000000 in
theorem devValid_c (A : Option Addr) (c : Nat) (g : GraphD) (w : World) (hh : RowsAt w A g) (hl : g.length ≤ 1000000000000000000) (hr : ∀ r ∈ g, r.length ≤ 1000000000000000000) :
    Calls Try.prog 47 #[.slice A g.length c] w fun e w' => e = .returned (.bool (validG g)) ∧ w = w' := by
  have HH := Lib.hid hh
  have HR := Lib.hid hr
  clear hh hr
  by_cases h24 : 24 < g.length
  · have HD : Hid (validG g = false) := Lib.hid (by unfold validG; rw [decide_eq_false (by omega)]; rfl)
    have hd : decide ((24 : Int) < (g.length : Int)) = true := by simp; omega
    go_enter Try.func47, Try.ntmps47
    go_wp2
    go_ret
    exact ⟨gr_bool HD.out.symm, rfl⟩
  · go_enter Try.func47, Try.ntmps47
    go_wp2
    go_loop [10] (fun v => ∃ k : Nat, k ≤ g.length ∧ v = .int .i64 k ∧ Hid (validG g = rowsOk g.length k (g.drop k))) (fun v => g.length - (intOf v).toNat)
    case atStart => exact ⟨0, Nat.zero_le _, rfl, Lib.hid (by unfold validG; rw [decide_eq_true (by omega), Bool.true_and]; rfl)⟩
    case round =>
      obtain ⟨k, hk, rfl, HV⟩ := hrel
      by_cases hlt : k < g.length
      · obtain ⟨b, o, A1, c1, rfl, e1, h1⟩ := HH.out.one hlt
        have HC := Lib.hid (devEdges_c A1 c1 g.length k g[k] w h1 (HR.out _ (List.getElem_mem hlt)))
        have HV1 : Hid (validG g = (rowOk g.length k none g[k] && rowsOk g.length ((k : Int) + 1) (g.drop (k + 1)))) := Lib.hid (by rw [HV.out, rowsOk_step hlt])
        clear HV h1
        rcases hro : rowOk g.length k none g[k] with _ | _
        · have HV2 : Hid (validG g = false) := Lib.hid (by rw [HV1.out, hro, Bool.false_and])
          rw [hro] at HC
          clear HV1 hro
          generalize g[k] = r at *
          go_wp2_with fail
          refine HC.out.mono ?_
          rintro e w1 ⟨rfl, rfl⟩
          go_wp2
          go_ret
          exact ⟨gr_bool HV2.out.symm, rfl⟩
        · have HV2 : Hid (validG g = rowsOk g.length ((k : Int) + 1) (g.drop (k + 1))) := Lib.hid (by rw [HV1.out, hro, Bool.true_and])
          rw [hro] at HC
          clear HV1 hro
          generalize g[k] = r at *
          go_wp2_with fail
          refine HC.out.mono ?_
          rintro e w1 ⟨rfl, rfl⟩
          go_wp2
          go_round
          case rel => exact ⟨k + 1, by omega, by go_num, Lib.hid (by rw [HV2.out]; rfl)⟩
          case measure => simp [intOf]; omega
      · have HV2 : Hid (validG g = true) := Lib.hid (by rw [HV.out, rowsOk_end (by omega)])
        clear HV
        go_wp2
        go_ret
        exact ⟨gr_bool HV2.out.symm, rfl⟩
theorem devCheck_c (A B : Option Addr) (c d m : Nat) (g : GraphD) (w : World) (hh : RowsAt w A g) (hl : g.length ≤ 1000000000000000000) (hr : ∀ r ∈ g, r.length ≤ 1000000000000000000) :
    Calls Try.prog 35 #[.slice A g.length c, .slice B m d] w fun e w' => e = .returned (.int .i64 (chkG g m)) ∧ w = w' := by
  have C := Lib.hid (devValid_c A c g w hh hl hr)
  clear hh hr
  rcases hv : validG g with _ | _
  · have HD : Hid (chkG g m = 20) := Lib.hid (by unfold chkG; rw [hv]; rfl)
    rw [hv] at C
    clear hv
    go_enter Try.func35, Try.ntmps35
    go_wp2_with fail
    refine C.out.mono ?_
    rintro e w1 ⟨rfl, rfl⟩
    go_wp2
    go_ret
    exact ⟨gr_int HD.out.symm, rfl⟩
  · rw [hv] at C
    by_cases hm : m = g.length
    · have HD : Hid (chkG g m = 0) := Lib.hid (by unfold chkG; rw [hv, hm]; simp)
      subst hm
      clear hv
      have hne : ((g.length : Int) != (g.length : Int)) = false := by simp
      go_enter Try.func35, Try.ntmps35
      go_wp2_with fail
      refine C.out.mono ?_
      rintro e w1 ⟨rfl, rfl⟩
      go_wp2
      go_ret
      exact ⟨gr_int HD.out.symm, rfl⟩
    · have HD : Hid (chkG g m = 19) := Lib.hid (by unfold chkG; rw [hv]; simp [hm])
      clear hv
      have hne : ((m : Int) != (g.length : Int)) = true := by rw [bne_iff_ne]; omega
      go_enter Try.func35, Try.ntmps35
      go_wp2_with fail
      refine C.out.mono ?_
      rintro e w1 ⟨rfl, rfl⟩
      go_wp2
      go_ret
      exact ⟨gr_int HD.out.symm, rfl⟩
end Go.Proofs.Ythfhplhdfnebhaa
namespace Go.Proofs.Ythfhplhdfnebhaa
open Go Go.RowKit Fl

def mk24 (f : Nat → Bool) : List Bool := (List.range 24).map f
theorem mk24_length (f : Nat → Bool) : (mk24 f).length = 24 := by simp [mk24]
theorem mk24_at {f : Nat → Bool} {k : Nat} (h : k < (mk24 f).length) : (mk24 f)[k] = f k := by simp [mk24]
theorem mk24_congr {f f' : Nat → Bool} (h : ∀ i, i < 24 → f i = f' i) : mk24 f = mk24 f' := by
  unfold mk24
  exact List.map_congr_left fun i hi => h i (List.mem_range.1 hi)
theorem mk24_set {f f' : Nat → Bool} {k : Nat} {z : Bool} (hz : f' k = z) (hf : ∀ i, i ≠ k → f' i = f i) : (mk24 f).set k z = mk24 f' := by
  refine List.ext_getElem (by simp [mk24]) fun i h1 h2 => ?_
  rw [List.getElem_set]
  by_cases h : k = i
  · subst h; rw [if_pos rfl, mk24_at, hz]
  · rw [if_neg h, mk24_at, mk24_at, hf i (fun e => h e.symm)]
theorem mk24_none : mk24 (fun _ => false) = List.replicate 24 false := by simp [mk24, List.map_const']
/-- The cells of an array of marks. -/
def cellsM (l : List Bool) : Array Value := (l.map Bo).toArray
theorem cellsM_size (l : List Bool) : (cellsM l).size = l.length := by simp [cellsM]
theorem cellsM_one (l : List Bool) : (cellsM l).all (·.oneCell') = true := by
  refine Array.all_eq_true_iff_forall_mem.2 fun v hv => ?_
  simp only [cellsM, List.mem_toArray, List.mem_map] at hv
  obtain ⟨x, _, rfl⟩ := hv
  rfl
def MarksAt (w : World) (G : Nat) (l : List Bool) : Prop := w.heap[G]? = some (.cells (cellsM l) 74 (0, 0))
theorem MarksAt.lt {w : World} {G : Nat} {l : List Bool} (h : MarksAt w G l) : G < w.heap.size := block_lt h
theorem MarksAt.cell {w : World} {G : Nat} {l : List Bool} (h : MarksAt w G l) {k : Nat} (hk : k < l.length) : w.cell? ⟨G, k, none⟩ = some (.bool l[k]) ∧ w.frozen? ⟨G, k, none⟩ = false := by
  refine ⟨?_, ?_⟩
  · rw [cell_of_row w G k _ _ _ h]
    simp [cellsM, hk]
  · unfold MarksAt at h
    simp [World.frozen?, h]
theorem MarksAt.set {w : World} {G : Nat} {l : List Bool} (h : MarksAt w G l) (k : Nat) (z : Bool) : MarksAt (w.setCell ⟨G, k, none⟩ (.bool z)) G (l.set k z) := by
  unfold MarksAt at h ⊢
  have e : cellsM (l.set k z) = (cellsM l).setIfInBounds k (.bool z) := by
    apply Array.ext'
    simp [cellsM, List.map_set]
  rw [e]
  simp [World.setCell, Array.getElem?_modify]
  exact ⟨_, h, by simp⟩
theorem MarksAt.same {w w' : World} {G : Nat} {l : List Bool} (h : MarksAt w G l) (e : w'.heap[G]? = w.heap[G]?) : MarksAt w' G l := e.trans h
theorem MarksAt.keep {w w' : World} {G B : Nat} {l : List Bool} (h : MarksAt w G l) (hb : Below B w w') (hG : G < B) : MarksAt w' G l := h.same (hb.block G hG)
theorem MarksAt.alloc {w : World} {G : Nat} {l : List Bool} (h : MarksAt w G l) (o : Obj) : MarksAt (w.alloc o) G l := h.same (by
  show (w.heap.push o)[G]? = w.heap[G]?
  rw [Array.getElem?_push, if_neg (by have := h.lt; omega)])
theorem MarksAt.put {w : World} {G H k : Nat} {l : List Bool} {v : Value} (h : MarksAt w G l) (hn : G ≠ H) : MarksAt (w.setCell ⟨H, k, none⟩ v) G l := h.same (Below.heap_setCell _ _ _ _ hn)
theorem MarksAt.row {w : World} {G : Nat} {l l' : List Bool} (h : MarksAt w G l) : MarksAt (w.setRow G (cellsM l')) G l' := setRow_heap w G _ _ _ _ h
theorem MarksAt.rowOther {w : World} {G H : Nat} {l : List Bool} {c : Array Value} (h : MarksAt w G l) (hn : G ≠ H) : MarksAt (w.setRow H c) G l := h.same (setRow_other w H G c hn)
theorem below_row {B G : Nat} {w w' : World} (h : Below B w w') (hg : B ≤ G) (c : Array Value) : Below B w (w'.setRow G c) := by
  refine ⟨h.os, h.tape, h.output, Nat.le_trans h.size (by simp [World.setRow]), fun k hk => ?_⟩
  rw [setRow_other w' G k c (by omega)]
  exact h.block k hk
theorem Try.undM : Try.prog.underlying 74 = some (.array 24 4) := by kernel_rfl
theorem Try.sizeM : (Try.prog.info? 74).map (·.size) = some 24 := by kernel_rfl
theorem sizeMl {l : List Bool} (h : l.length = 24) : (Try.prog.info? 74).map (·.size) = some (cellsM l).size := by rw [cellsM_size, h]; exact Try.sizeM
theorem marks_new (w : World) : MarksAt (w.alloc (.cells #[.bool false, .bool false, .bool false, .bool false, .bool false, .bool false, .bool false, .bool false, .bool false, .bool false, .bool false, .bool false, .bool false, .bool false, .bool false, .bool false, .bool false, .bool false, .bool false, .bool false, .bool false, .bool false, .bool false, .bool false] 74)) w.heap.size (mk24 fun _ => false) := by
  unfold MarksAt
  rw [heap_alloc_new, mk24_none]
  rfl
section
variable {ops : Array Oper} {rest : List Oper} {o : Oper} {a : Act} {w : World} {Q : Exit → Act → World → Prop}
/-- The whole array is read. -/
theorem load_marks (hgd : o.guard = none) (x : Operand) (ho : o.op = .load 74 x) (g : Nat) (hx : a.eval x = .pointer (some ⟨g, 0, none⟩)) {l : List Bool} (hm : MarksAt w g l) (hl : l.length = 24)
    (h : wpList Try.prog ops Q rest (a.put o.dst (.agg (cellsM l))) w) : wpList Try.prog ops Q (o :: rest) a w :=
  wpList_load_row hgd _ x ho g hx _ _ _ _ hm Try.undM rfl (sizeMl hl) h
/-- The whole array is written. -/
theorem store_marks (hgd : o.guard = none) (x y : Operand) (ho : o.op = .store 74 x y) (g : Nat) (hx : a.eval x = .pointer (some ⟨g, 0, none⟩)) {l l' : List Bool} (hy : a.eval y = .agg (cellsM l')) (hm : MarksAt w g l) (hl : l.length = 24) (hl' : l'.length = 24)
    (h : wpList Try.prog ops Q rest (a.put o.dst undef) (w.setRow g (cellsM l'))) : wpList Try.prog ops Q (o :: rest) a w :=
  wpList_store_row hgd _ x y ho g _ hx hy _ _ hm (sizeMl hl') (by rw [cellsM_size, cellsM_size, hl, hl']) (cellsM_one _) h
end
/-- The open vertices. -/
def openM (s : List Bool) : List Bool := mk24 fun v => decide (v < s.length) && !atB s v
theorem openM_length (s : List Bool) : (openM s).length = 24 := mk24_length _
set_option maxRecDepth 100000 in
set_option maxHeartbeats 2000000 in
theorem openR_c (A : Option Addr) (c : Nat) (s : List Bool) (w : World) (hs : Holds w A (s.map Bo)) (hl : s.length ≤ 24) :
    Calls Try.prog 36 #[.slice A s.length c] w fun e w' => e = .returned (.agg (cellsM (openM s))) ∧ Below w.heap.size w w' := by
  have HS := Lib.hid hs
  clear hs
  go_enter Try.func36, Try.ntmps36
  go_wp2
  have HM1 := Lib.hid ((marks_new w).alloc (.cells #[.bool false, .bool false, .bool false, .bool false, .bool false, .bool false, .bool false, .bool false, .bool false, .bool false, .bool false, .bool false, .bool false, .bool false, .bool false, .bool false, .bool false, .bool false, .bool false, .bool false, .bool false, .bool false, .bool false, .bool false] 74))
  have HM2 := Lib.hid (marks_new (w.alloc (.cells #[.bool false, .bool false, .bool false, .bool false, .bool false, .bool false, .bool false, .bool false, .bool false, .bool false, .bool false, .bool false, .bool false, .bool false, .bool false, .bool false, .bool false, .bool false, .bool false, .bool false, .bool false, .bool false, .bool false, .bool false] 74)))
  rw [show (w.alloc (.cells #[.bool false, .bool false, .bool false, .bool false, .bool false, .bool false, .bool false, .bool false, .bool false, .bool false, .bool false, .bool false, .bool false, .bool false, .bool false, .bool false, .bool false, .bool false, .bool false, .bool false, .bool false, .bool false, .bool false, .bool false] 74)).heap.size = w.heap.size + 1 from by simp] at HM2
  have HB2 := Lib.hid ((((Below.refl w.heap.size w).alloc (Nat.le_refl _) (.cells #[.bool false, .bool false, .bool false, .bool false, .bool false, .bool false, .bool false, .bool false, .bool false, .bool false, .bool false, .bool false, .bool false, .bool false, .bool false, .bool false, .bool false, .bool false, .bool false, .bool false, .bool false, .bool false, .bool false, .bool false] 74)).alloc (by simp) (.cells #[.bool false, .bool false, .bool false, .bool false, .bool false, .bool false, .bool false, .bool false, .bool false, .bool false, .bool false, .bool false, .bool false, .bool false, .bool false, .bool false, .bool false, .bool false, .bool false, .bool false, .bool false, .bool false, .bool false, .bool false] 74)))
  generalize (w.alloc (.cells #[.bool false, .bool false, .bool false, .bool false, .bool false, .bool false, .bool false, .bool false, .bool false, .bool false, .bool false, .bool false, .bool false, .bool false, .bool false, .bool false, .bool false, .bool false, .bool false, .bool false, .bool false, .bool false, .bool false, .bool false] 74)).alloc (.cells #[.bool false, .bool false, .bool false, .bool false, .bool false, .bool false, .bool false, .bool false, .bool false, .bool false, .bool false, .bool false, .bool false, .bool false, .bool false, .bool false, .bool false, .bool false, .bool false, .bool false, .bool false, .bool false, .bool false, .bool false] 74) = w2 at *
  obtain ⟨G, hG⟩ : ∃ G, G = w.heap.size := ⟨_, rfl⟩
  rw [← hG] at HM1 HM2 HB2 ⊢
  have HGG := Lib.hid hG
  clear hG
  have HM3 : Hid (MarksAt w2 (G + 1) (mk24 fun x => decide (x < 0) && !atB s x)) := Lib.hid (by
    rw [show (mk24 fun x => decide (x < 0) && !atB s x) = mk24 fun _ => false from mk24_congr fun i _ => by simp]; exact HM2.out)
  clear HM2
  go_loopw [8] (fun i wr => ∃ (v : Nat), i = .int .i64 v ∧ v ≤ s.length ∧ Hid (MarksAt wr (G + 1) (mk24 fun x => decide (x < v) && !atB s x)) ∧ Hid (MarksAt wr G (mk24 fun _ => false)) ∧ Hid (Below G w wr)) (fun i _ => s.length - (intOf i).toNat)
  case atStart => exact ⟨0, rfl, Nat.zero_le _, HM3, HM1, HB2⟩
  case round =>
    clear HM3 HM1 HB2
    obtain ⟨v, rfl, hv, HM, HM1, HB⟩ := hrel
    by_cases hvt : v < s.length
    · obtain ⟨b, o, rfl, e1⟩ := HS.out.bo hvt
      have hbG : b < G := by have h : b < w.heap.size := World.block_lt_of_cell? _ _ e1; have := HGG.out; omega
      have e1r : wr.cell? ⟨b, o + v, none⟩ = some (.bool s[v]) := (HB.out.cell (p := ⟨b, o + v, none⟩) hbG).trans e1
      obtain ⟨cu, c1, f1⟩ : ∃ cu, wr.cell? ⟨G + 1, v, none⟩ = some cu ∧ wr.frozen? ⟨G + 1, v, none⟩ = false := ⟨_, HM.out.cell (by rw [mk24_length]; omega)⟩
      have HM2 : Hid (MarksAt (wr.setCell ⟨G + 1, v, none⟩ (.bool (!s[v]))) (G + 1) (mk24 fun x => decide (x < v + 1) && !atB s x)) := Lib.hid (by
        rw [← mk24_set (f := fun x => decide (x < v) && !atB s x) (k := v) (z := !s[v]) (by rw [atB_at hvt]; simp) (fun i hi => by
          congr 1
          exact decide_eq_decide.2 (by omega))]
        exact HM.out.set v _)
      have HM12 := Lib.hid (HM1.out.put (H := G + 1) (k := v) (v := .bool (!s[v])) (by omega))
      have HB2 := Lib.hid (below_put (i := v) (v := .bool (!s[v])) HB.out (Nat.le_succ G))
      have hv24 : v < 24 := by omega
      clear e1 HM HM1 HB
      generalize s[v] = sv at *
      go_wp2
      go_roundw
      case rel => exact ⟨v + 1, by go_num, by omega, HM2, HM12, HB2⟩
      case measure => simp [intOf]; omega
    · obtain rfl : v = s.length := by omega
      have HMo : Hid (MarksAt wr (G + 1) (openM s)) := HM
      clear HM
      go_wp2_with (first | refine load_marks rfl _ rfl _ rfl HMo.out (openM_length s) ?_ | refine store_marks rfl _ _ rfl _ rfl rfl HM1.out (mk24_length _) (openM_length s) ?_)
      refine bodyPost_ret (v := .agg (cellsM (openM s))) ?_ rfl ⟨rfl, ?_⟩
      · rw [results_cell_row rfl _ _ _ _ _ _ _ rfl HM1.out.row Try.undM rfl (sizeMl (openM_length s))]
      · rw [← HGG.out]; exact below_row HB.out (Nat.le_refl _) _
end Go.Proofs.Ythfhplhdfnebhaa
namespace Go.Proofs.Ythfhplhdfnebhaa
open Go Go.RowKit Fl

/-- Marks of the vertices of a graph, and false behind them. -/
def padM (M : List Bool) : List Bool := M ++ List.replicate (24 - M.length) false
theorem padM_length {M : List Bool} (h : M.length ≤ 24) : (padM M).length = 24 := by simp [padM]; omega
theorem padM_lt {M : List Bool} {k : Nat} (h : k < M.length) : k < (padM M).length := by simp [padM]; omega
theorem padM_at {M : List Bool} {k : Nat} (h : k < M.length) : (padM M)[k]'(padM_lt h) = M[k] := by simp [padM, h]
theorem padM_set {M : List Bool} {k : Nat} {z : Bool} (h : k < M.length) : (padM M).set k z = padM (M.set k z) := by
  unfold padM
  rw [List.set_append_left _ _ h, List.length_set]
theorem padM_none {n : Nat} (h : n ≤ 24) : padM (List.replicate n false) = mk24 fun _ => false := by
  unfold padM
  rw [List.length_replicate, List.replicate_append_replicate, mk24_none]
  congr 1
  omega
theorem openM_at {s : List Bool} {k : Nat} (h : k < s.length) (h24 : k < 24) : (openM s)[k]'(by rw [openM_length]; exact h24) = !s[k] := by
  unfold openM
  rw [mk24_at, atB_at h]
  simp [h]
theorem ownR_other {w w' : World} {base n : Nat} {e : TypeId} {v : Value} {xs : List Value} (h : w.ownsRow base e 1 v n xs) (hw : ∀ b, base ≤ b → w'.heap[b]? = w.heap[b]?) : w'.ownsRow base e 1 v n xs := by
  obtain ⟨h1, h2⟩ := h
  refine ⟨h1, ?_⟩
  rcases h2 with h2 | ⟨g, cap, cur, hv, hb, hh, hr⟩
  · exact .inl h2
  · exact .inr ⟨g, cap, cur, hv, hb, (hw g hb).trans hh, hr⟩
theorem own_newI {w : World} {base q : Nat} {z : Int} (h : w.heap[q]? = some (.cells #[Iv z] 3 (0, 0))) (hb : base ≤ q) : w.ownsRow base 3 1 (.slice (some ⟨q, 0, none⟩) 1 1) 1 ([z].map Iv) :=
  ⟨rfl, .inr ⟨q, 1, #[Iv z], rfl, hb, h, by omega, by unfold maxLen; omega, rfl, rfl⟩⟩
theorem MarksAt.grown {w w' : World} {H : Nat} {l : List Bool} {row : Option Nat} (h : MarksAt w H l) (hg : w.grownBy w' row) (hn : some H ≠ row) : MarksAt w' H l := h.same (hg.block H h.lt hn)
/-- What the three arrays of reached are at the start. -/
theorem marks3 (w : World) (O : List Bool) : MarksAt (((w.alloc (.cells (cellsM O) 74)).alloc (.cells #[.bool false, .bool false, .bool false, .bool false, .bool false, .bool false, .bool false, .bool false, .bool false, .bool false, .bool false, .bool false, .bool false, .bool false, .bool false, .bool false, .bool false, .bool false, .bool false, .bool false, .bool false, .bool false, .bool false, .bool false] 74)).alloc (.cells #[.bool false, .bool false, .bool false, .bool false, .bool false, .bool false, .bool false, .bool false, .bool false, .bool false, .bool false, .bool false, .bool false, .bool false, .bool false, .bool false, .bool false, .bool false, .bool false, .bool false, .bool false, .bool false, .bool false, .bool false] 74)) w.heap.size O ∧
    MarksAt (((w.alloc (.cells (cellsM O) 74)).alloc (.cells #[.bool false, .bool false, .bool false, .bool false, .bool false, .bool false, .bool false, .bool false, .bool false, .bool false, .bool false, .bool false, .bool false, .bool false, .bool false, .bool false, .bool false, .bool false, .bool false, .bool false, .bool false, .bool false, .bool false, .bool false] 74)).alloc (.cells #[.bool false, .bool false, .bool false, .bool false, .bool false, .bool false, .bool false, .bool false, .bool false, .bool false, .bool false, .bool false, .bool false, .bool false, .bool false, .bool false, .bool false, .bool false, .bool false, .bool false, .bool false, .bool false, .bool false, .bool false] 74)) (w.heap.size + 1) (mk24 fun _ => false) ∧
    MarksAt (((w.alloc (.cells (cellsM O) 74)).alloc (.cells #[.bool false, .bool false, .bool false, .bool false, .bool false, .bool false, .bool false, .bool false, .bool false, .bool false, .bool false, .bool false, .bool false, .bool false, .bool false, .bool false, .bool false, .bool false, .bool false, .bool false, .bool false, .bool false, .bool false, .bool false] 74)).alloc (.cells #[.bool false, .bool false, .bool false, .bool false, .bool false, .bool false, .bool false, .bool false, .bool false, .bool false, .bool false, .bool false, .bool false, .bool false, .bool false, .bool false, .bool false, .bool false, .bool false, .bool false, .bool false, .bool false, .bool false, .bool false] 74)) (w.heap.size + 1 + 1) (mk24 fun _ => false) ∧
    Below w.heap.size w (((w.alloc (.cells (cellsM O) 74)).alloc (.cells #[.bool false, .bool false, .bool false, .bool false, .bool false, .bool false, .bool false, .bool false, .bool false, .bool false, .bool false, .bool false, .bool false, .bool false, .bool false, .bool false, .bool false, .bool false, .bool false, .bool false, .bool false, .bool false, .bool false, .bool false] 74)).alloc (.cells #[.bool false, .bool false, .bool false, .bool false, .bool false, .bool false, .bool false, .bool false, .bool false, .bool false, .bool false, .bool false, .bool false, .bool false, .bool false, .bool false, .bool false, .bool false, .bool false, .bool false, .bool false, .bool false, .bool false, .bool false] 74)) ∧
    (((w.alloc (.cells (cellsM O) 74)).alloc (.cells #[.bool false, .bool false, .bool false, .bool false, .bool false, .bool false, .bool false, .bool false, .bool false, .bool false, .bool false, .bool false, .bool false, .bool false, .bool false, .bool false, .bool false, .bool false, .bool false, .bool false, .bool false, .bool false, .bool false, .bool false] 74)).alloc (.cells #[.bool false, .bool false, .bool false, .bool false, .bool false, .bool false, .bool false, .bool false, .bool false, .bool false, .bool false, .bool false, .bool false, .bool false, .bool false, .bool false, .bool false, .bool false, .bool false, .bool false, .bool false, .bool false, .bool false, .bool false] 74)).heap.size = w.heap.size + 1 + 1 + 1 := by
  have h0 : MarksAt (w.alloc (.cells (cellsM O) 74)) w.heap.size O := heap_alloc_new _ _
  have h1 := marks_new (w.alloc (.cells (cellsM O) 74))
  have h2 := marks_new ((w.alloc (.cells (cellsM O) 74)).alloc (.cells #[.bool false, .bool false, .bool false, .bool false, .bool false, .bool false, .bool false, .bool false, .bool false, .bool false, .bool false, .bool false, .bool false, .bool false, .bool false, .bool false, .bool false, .bool false, .bool false, .bool false, .bool false, .bool false, .bool false, .bool false] 74))
  rw [show (w.alloc (.cells (cellsM O) 74)).heap.size = w.heap.size + 1 from by simp] at h1
  rw [show ((w.alloc (.cells (cellsM O) 74)).alloc (.cells #[.bool false, .bool false, .bool false, .bool false, .bool false, .bool false, .bool false, .bool false, .bool false, .bool false, .bool false, .bool false, .bool false, .bool false, .bool false, .bool false, .bool false, .bool false, .bool false, .bool false, .bool false, .bool false, .bool false, .bool false] 74)).heap.size = w.heap.size + 1 + 1 from by simp] at h2
  exact ⟨(h0.alloc _).alloc _, h1.alloc _, h2, (((Below.refl _ _).alloc (Nat.le_refl _) _).alloc (by simp) _).alloc (by simp; omega) _, by simp⟩
set_option maxRecDepth 100000 in
set_option maxHeartbeats 4000000 in
theorem reached_c (A : Option Addr) (c : Nat) (g : GraphD) (s : List Bool) (v : Nat) (w : World) (hh : RowsAt w A g) (hg : validG g = true) (hsl : s.length = g.length) (hv : v < g.length) :
    Calls Try.prog 37 #[.slice A g.length c, .agg (cellsM (openM s)), .int .i64 v] w fun e w' => e = .returned (.agg (cellsM (padM (reachL g s v)))) ∧ Below w.heap.size w w' := by
  have hvs : v < s.length := by omega
  have hl24 := validG_len hg
  have hv24 : v < 24 := by omega
  have hat := atB_at hvs
  have hop := openM_at hvs hv24
  have HH := Lib.hid hh
  have HG := Lib.hid hg
  have HSL := Lib.hid hsl
  have HR24 := Lib.hid (validG_short hg)
  have HOL := Lib.hid (openM_length s)
  have HOP := Lib.hid (fun (k : Nat) (h : k < s.length) (h24 : k < 24) => openM_at h h24)
  have M3 := marks3 w (openM s)
  clear hh hg hsl
  obtain ⟨W, hW⟩ : ∃ W, (((w.alloc (.cells (cellsM (openM s)) 74)).alloc (.cells #[.bool false, .bool false, .bool false, .bool false, .bool false, .bool false, .bool false, .bool false, .bool false, .bool false, .bool false, .bool false, .bool false, .bool false, .bool false, .bool false, .bool false, .bool false, .bool false, .bool false, .bool false, .bool false, .bool false, .bool false] 74)).alloc (.cells #[.bool false, .bool false, .bool false, .bool false, .bool false, .bool false, .bool false, .bool false, .bool false, .bool false, .bool false, .bool false, .bool false, .bool false, .bool false, .bool false, .bool false, .bool false, .bool false, .bool false, .bool false, .bool false, .bool false, .bool false] 74)) = W := ⟨_, rfl⟩
  rw [hW] at M3
  obtain ⟨G, hG⟩ : ∃ G, w.heap.size = G := ⟨_, rfl⟩
  rw [hG] at M3
  obtain ⟨m0, m1, m2, hb, hWs⟩ := M3
  have HGG := Lib.hid hG
  have e0 : W.cell? ⟨G, v, none⟩ = some (.bool (!s[v])) := by rw [(m0.cell (k := v) (by rw [openM_length]; exact hv24)).1, hop]
  have H0 := Lib.hid m0
  have H1 := Lib.hid m1
  have H2 := Lib.hid m2
  have HB := Lib.hid hb
  clear hop m0 m1 m2 hb
  rcases hsv : s[v] with _ | _
  · rw [hsv] at hat e0
    have HI := Lib.hid (bfs_start hv hat)
    obtain ⟨cu, c1, f1⟩ : ∃ cu, W.cell? ⟨G + 1 + 1, v, none⟩ = some cu ∧ W.frozen? ⟨G + 1 + 1, v, none⟩ = false := ⟨_, H2.out.cell (by rw [mk24_length]; exact hv24)⟩
    have HU : Hid (1 + unm ((List.replicate g.length false).set v true) = g.length) := Lib.hid (by
      have h := unm_set (M := List.replicate g.length false) (y := v) (by simpa using hv) (by unfold atB; rw [List.getD_eq_getElem?_getD, List.getElem?_replicate]; split <;> rfl)
      have h2 : unm (List.replicate g.length false) = g.length := by simp [unm]
      omega)
    have K0 := Lib.hid ((H0.out.put (H := G + 1 + 1) (k := v) (v := .bool true) (by omega)).alloc (.cells #[.int .i64 v] 3))
    have K1 := Lib.hid ((H1.out.put (H := G + 1 + 1) (k := v) (v := .bool true) (by omega)).alloc (.cells #[.int .i64 v] 3))
    have K2 : Hid (MarksAt ((W.setCell ⟨G + 1 + 1, v, none⟩ (.bool true)).alloc (.cells #[.int .i64 v] 3)) (G + 1 + 1) (padM ((List.replicate g.length false).set v true))) := Lib.hid (by
      rw [← padM_set (by simpa using hv), padM_none hl24]
      exact (H2.out.set v true).alloc _)
    have KB := Lib.hid ((below_put (i := v) (v := .bool true) HB.out (show G ≤ G + 1 + 1 by omega)).alloc (by simp [World.setCell]; omega) (.cells #[.int .i64 v] 3))
    have KO : Hid (((W.setCell ⟨G + 1 + 1, v, none⟩ (.bool true)).alloc (.cells #[.int .i64 v] 3)).ownsRow (G + 1 + 1 + 1) 3 1 (.slice (some ⟨G + 1 + 1 + 1, 0, none⟩) 1 1) 1 ([(v : Int)].map Iv)) := Lib.hid (own_newI (by
      have h := alloc_set W ⟨G + 1 + 1, v, none⟩ (.bool true) (.cells #[.int .i64 v] 3)
      rwa [hWs] at h) (Nat.le_refl _))
    have KS : G + 1 + 1 + 1 ≤ ((W.setCell ⟨G + 1 + 1, v, none⟩ (.bool true)).alloc (.cells #[.int .i64 v] 3)).heap.size := by simp [World.setCell]; omega
    clear H0 H1 H2 HB hsv hat
    go_enter Try.func37, Try.ntmps37
    go_wp2
    have hM0l : ((List.replicate g.length false).set v true).length = g.length := by simp
    generalize (List.replicate g.length false).set v true = M0 at *
    generalize (W.setCell ⟨G + 1 + 1, v, none⟩ (.bool true)).alloc (.cells #[.int .i64 v] 3) = w3 at *
    clear e0 c1 f1 hW hWs hG
    go_loopw [8, 9] (fun lv iv wr => ∃ (i : Nat) (L : List Int) (q cap : Nat) (M : List Bool), lv = .slice (some ⟨q, 0, none⟩) L.length cap ∧ iv = .int .i64 i ∧ i ≤ L.length ∧ Hid (BfsInv g s v M (L.drop i)) ∧ L.length + unm M = g.length ∧
      Hid (wr.ownsRow (G + 1 + 1 + 1) 3 1 (.slice (some ⟨q, 0, none⟩) L.length cap) L.length (L.map Iv)) ∧ Hid (MarksAt wr G (openM s)) ∧ Hid (MarksAt wr (G + 1) (mk24 fun _ => false)) ∧ Hid (MarksAt wr (G + 1 + 1) (padM M)) ∧ Hid (Below G w wr) ∧ G + 1 + 1 + 1 ≤ wr.heap.size) (fun _ iv _ => g.length - (intOf iv).toNat)
    case atStart => exact ⟨0, [(v : Int)], _, _, M0, rfl, rfl, Nat.zero_le _, HI, HU.out, KO, K0, K1, K2, KB, KS⟩
    case round =>
      clear HI HU KO K0 K1 K2 KB KS hM0l M0
      obtain ⟨i, L, q, cap, M, rfl, rfl, hi, HI, hcnt, HO, H0, H1, H2, HB, hsz⟩ := hrel
      by_cases hlt : i < L.length
      · have hpop := HI.out
        rw [List.drop_eq_getElem_cons hlt] at hpop
        obtain ⟨xn, hx, hxn, hmid⟩ := hpop.pop
        have HM := Lib.hid hmid
        have ex : wr.cell? ⟨q, i, none⟩ = some (.int .i64 xn) := by
          rw [(own_get HO.out (i := i) (u := Iv L[i]) (by simp [hlt])).1, hx]
        obtain ⟨bg, og, A2, c2, rfl, e1, h1⟩ := HH.out.one hxn
        have hbg : bg < G := by have h : bg < w.heap.size := World.block_lt_of_cell? _ _ e1; have := HGG.out; omega
        have e1r : wr.cell? ⟨bg, og + xn, none⟩ = some (.slice A2 g[xn].length c2) := (HB.out.cell (p := ⟨bg, og + xn, none⟩) hbg).trans e1
        have hr24 := HR24.out _ (List.getElem_mem hxn)
        have HX := Lib.hid (rowOk_row HG.out hxn)
        have hrow := rowG_at hxn
        rw [hrow] at HX
        have HRow := Lib.hid hrow
        have HR1 := Lib.hid h1
        clear hmid hpop HI e1 h1 hrow hx
        generalize g[xn] = r at *
        have hi1 : i + 1 ≤ L.length := hlt
        go_wp2
        clear ex e1r
        go_loopw [8, 35] (fun lv jv wr => ∃ (m : Nat) (L : List Int) (q cap : Nat) (M : List Bool), lv = .slice (some ⟨q, 0, none⟩) L.length cap ∧ jv = .int .i64 m ∧ m ≤ r.length ∧ i + 1 ≤ L.length ∧ Hid (BfsMid g s v M (L.drop (i + 1)) xn m) ∧ L.length + unm M = g.length ∧
          Hid (wr.ownsRow (G + 1 + 1 + 1) 3 1 (.slice (some ⟨q, 0, none⟩) L.length cap) L.length (L.map Iv)) ∧ Hid (MarksAt wr G (openM s)) ∧ Hid (MarksAt wr (G + 1) (mk24 fun _ => false)) ∧ Hid (MarksAt wr (G + 1 + 1) (padM M)) ∧ Hid (Below G w wr) ∧ G + 1 + 1 + 1 ≤ wr.heap.size) (fun _ jv _ => r.length - (intOf jv).toNat)
        case atStart => exact ⟨0, L, _, _, M, rfl, rfl, Nat.zero_le _, hi1, HM, hcnt, HO, H0, H1, H2, HB, hsz⟩
        case round =>
          clear HM HO H0 H1 H2 HB hsz hcnt hlt hi1 hi
          obtain ⟨m, L, q, cap, M, rfl, rfl, hm, hi1, HM, hcnt, HO, H0, H1, H2, HB, hsz⟩ := hrel
          by_cases hmlt : m < r.length
          · obtain ⟨br, or_, rfl, e2⟩ := HR1.out.iv hmlt
            have hbr : br < G := by have h : br < w.heap.size := World.block_lt_of_cell? _ _ e2; have := HGG.out; omega
            have e2r : wr.cell? ⟨br, or_ + m, none⟩ = some (.int .i64 r[m]) := (HB.out.cell (p := ⟨br, or_ + m, none⟩) hbr).trans e2
            obtain ⟨y0, y1, y2⟩ := HX.out r[m] (List.getElem_mem hmlt)
            obtain ⟨y, hy⟩ := Int.eq_ofNat_of_zero_le y0
            have hmr : m < (rowG g xn).length := by rw [HRow.out]; exact hmlt
            have hyr : (rowG g xn)[m] = (y : Int) := by
              have h : (rowG g xn)[m]? = some r[m] := by rw [HRow.out]; exact List.getElem?_eq_getElem hmlt
              rw [List.getElem?_eq_getElem hmr] at h
              injection h with h
              rw [h]; exact hy
            rw [hy] at e2r y1
            have hyn : y < g.length := by omega
            have hys : y < s.length := by have := HSL.out; omega
            have hyM : y < M.length := by rw [HM.out.len]; exact hyn
            have hy24 : y < 24 := by omega
            have eo : wr.cell? ⟨G, y, none⟩ = some (.bool (!s[y])) := by rw [(H0.out.cell (k := y) (by rw [openM_length]; exact hy24)).1, HOP.out y hys hy24]
            obtain ⟨em, fm⟩ := H2.out.cell (k := y) (padM_lt hyM)
            rw [padM_at hyM] at em
            have hS := atB_at hys
            have hMk := atB_at hyM
            have HSkip := Lib.hid (fun h => HM.out.skip (m := m) h)
            have HMark := Lib.hid (fun h => HM.out.mark (y := y) hmr hyr hyn h)
            have HYr := Lib.hid hyr
            have HUn := Lib.hid (unm_set hyM)
            have hML : M.length ≤ 24 := by rw [HM.out.len]; exact hl24
            have hcase : s[y] = true ∨ s[y] = false ∧ M[y] = true ∨ s[y] = false ∧ M[y] = false := by rcases s[y] with _ | _ <;> rcases M[y] with _ | _ <;> simp
            clear e2 y0 y1 y2 hy hyr HM
            rcases hcase with h1 | ⟨h1, h2⟩ | ⟨h1, h2⟩
            · have HM2 := Lib.hid (HSkip.out (fun _ z hz => .inl (by have : z = y := by have := HYr.out; omega
                                                                     subst this; rw [hS, h1])))
              rw [h1] at eo
              clear HSkip HMark HYr HUn em fm hS hMk h1
              go_wp2
              go_roundw
              case rel => exact ⟨m + 1, L, _, _, M, rfl, by go_num, by omega, hi1, HM2, hcnt, HO, H0, H1, H2, HB, hsz⟩
              case measure => simp [intOf]; omega
            · have HM2 := Lib.hid (HSkip.out (fun _ z hz => .inr (by have : z = y := by have := HYr.out; omega
                                                                     subst this; rw [hMk, h2])))
              rw [h1] at eo
              rw [h2] at em
              clear HSkip HMark HYr HUn hS hMk h1 h2
              go_wp2
              go_roundw
              case rel => exact ⟨m + 1, L, _, _, M, rfl, by go_num, by omega, hi1, HM2, hcnt, HO, H0, H1, H2, HB, hsz⟩
              case measure => simp [intOf]; omega
            · have HM2 := Lib.hid (HMark.out (by rw [hS, h1]))
              have hun := HUn.out (by rw [hMk, h2])
              rw [h1] at eo
              rw [h2] at em
              have N0 := Lib.hid (H0.out.put (H := G + 1 + 1) (k := y) (v := .bool true) (by omega))
              have N1 := Lib.hid (H1.out.put (H := G + 1 + 1) (k := y) (v := .bool true) (by omega))
              have N2 := Lib.hid (H2.out.set y true)
              rw [padM_set hyM] at N2
              have NB := Lib.hid (below_put (i := y) (v := .bool true) HB.out (show G ≤ G + 1 + 1 by omega))
              have NO := Lib.hid (ownR_other (w' := wr.setCell ⟨G + 1 + 1, y, none⟩ (.bool true)) HO.out (fun b hb => Below.heap_setCell _ _ _ _ (show b ≠ G + 1 + 1 by omega)))
              have NS : G + 1 + 1 + 1 ≤ (wr.setCell ⟨G + 1 + 1, y, none⟩ (.bool true)).heap.size := by simpa [World.setCell] using hsz
              have hLs : L.length ≤ 24 := by omega
              have hqb : G + 1 + 1 + 1 ≤ q := own_base HO.out q rfl
              clear HSkip HMark HYr HUn hS hMk h1 h2 HO H0 H1 H2 HB
              obtain ⟨i0, hi0, hz0, hz1, hz2⟩ := info_parts Try.infoIntG
              have NOa := Lib.hid (fun ob => NO.out.alloc ob)
              go_wp2_with (at_builtin; refine wpList_append_lies _ rfl _ _ 25 rfl (G + 1 + 1 + 1) 3 i0 (.int .i64 0) 1 8 Try.underlying25 hi0 hz0 hz1 hz2 rfl (by omega) (.slice (some ⟨q, 0, none⟩) L.length cap) L.length (L.map Iv) (by rfl) (NOa.out _) ⟨_, 0, none⟩ 1 1 [Iv y] (by rfl) (by rfl) (World.news_of_block (cs := #[Iv y]) (t := 3) (fr := (0, 0)) (alloc_set _ _ _ _)) (by simp [Value.oneCell']) (by omega) (by unfold maxLen; omega) (by omega) (by simp [World.setCell]; omega) _ rfl ?_)
              intro q8 cap8 w8 hown hgrow hat hlt8
              have K0 := Lib.hid ((N0.out.alloc (.cells #[.int .i64 y] 3)).grown hgrow (by intro e; injection e with e; simp at e; omega))
              have K1 := Lib.hid ((N1.out.alloc (.cells #[.int .i64 y] 3)).grown hgrow (by intro e; injection e with e; simp at e; omega))
              have K2 := Lib.hid ((N2.out.alloc (.cells #[.int .i64 y] 3)).grown hgrow (by intro e; injection e with e; simp at e; omega))
              have KB := Lib.hid ((NB.out.alloc (by simp [World.setCell]; omega) (.cells #[.int .i64 y] 3)).grown hgrow (by simp [World.setCell]; omega) (fun k hk => by injection hk with hk; simp at hk; omega))
              have KS : G + 1 + 1 + 1 ≤ w8.heap.size := by have h := hgrow.size; simp [World.setCell] at h; omega
              have KO : Hid (w8.ownsRow (G + 1 + 1 + 1) 3 1 (.slice (some ⟨q8, 0, none⟩) (L ++ [(y : Int)]).length cap8) (L ++ [(y : Int)]).length ((L ++ [(y : Int)]).map Iv)) := Lib.hid (by simpa using hown)
              have HM3 : Hid (BfsMid g s v (M.set y true) ((L ++ [(y : Int)]).drop (i + 1)) xn (m + 1)) := Lib.hid (by rw [List.drop_append_of_le_length hi1]; exact HM2.out)
              have hcnt3 : (L ++ [(y : Int)]).length + unm (M.set y true) = g.length := by simp; omega
              have hi3 : i + 1 ≤ (L ++ [(y : Int)]).length := by simp; omega
              have hvl : (L.length : Int) + 1 = ((L ++ [(y : Int)]).length : Int) := by simp
              clear hown hgrow hat hlt8 N0 N1 N2 NB NO NOa HM2 hun em fm eo
              go_wp2
              go_roundw
              case rel => exact ⟨m + 1, L ++ [(y : Int)], q8, cap8, M.set y true, by simp, by go_num, by omega, hi3, HM3, hcnt3, KO, K0, K1, K2, KB, KS⟩
              case measure => simp [intOf]; omega
          · have HI2 := Lib.hid (HM.out.over (by rw [HRow.out]; omega))
            clear HM
            go_wp2
            go_roundw
            case rel => exact ⟨i + 1, L, _, _, M, rfl, by go_num, hi1, HI2, hcnt, HO, H0, H1, H2, HB, hsz⟩
            case measure => simp [intOf]; omega
      · have HE : Hid (M = reachL g s v) := Lib.hid (BfsInv.end_ (by have h := HI.out; rwa [List.drop_of_length_le (by omega)] at h))
        have hML : M.length = g.length := HI.out.len
        have h24 : (padM M).length = 24 := padM_length (by omega)
        clear HI HO H0
        go_wp2_with (first | refine load_marks rfl _ rfl _ rfl H2.out h24 ?_ | refine store_marks rfl _ _ rfl _ rfl rfl H1.out (mk24_length _) h24 ?_)
        refine bodyPost_ret (v := .agg (cellsM (padM M))) ?_ rfl ⟨by rw [HE.out], ?_⟩
        · rw [results_cell_row rfl _ _ _ _ _ _ _ rfl H1.out.row Try.undM rfl (sizeMl h24)]
        · rw [HGG.out]; exact below_row HB.out (by omega) _
  · rw [hsv] at hat e0
    have HR : Hid (padM (reachL g s v) = mk24 fun _ => false) := Lib.hid (by rw [reachL_shut hat, padM_none hl24])
    clear hsv hat H0
    go_enter Try.func37, Try.ntmps37
    go_wp2_with (first | refine load_marks rfl _ rfl _ rfl H2.out (mk24_length _) ?_ | refine store_marks rfl _ _ rfl _ rfl rfl H1.out (mk24_length _) (mk24_length _) ?_)
    refine bodyPost_ret (v := .agg (cellsM (mk24 fun _ => false))) ?_ rfl ⟨by rw [HR.out], ?_⟩
    · rw [results_cell_row rfl _ _ _ _ _ _ _ rfl H1.out.row Try.undM rfl (sizeMl (mk24_length _))]
    · rw [HGG.out]; exact below_row HB.out (by omega) _
end Go.Proofs.Ythfhplhdfnebhaa
namespace Go.Proofs.Ythfhplhdfnebhaa
open Go Go.RowKit Fl

theorem own_low {w : World} {base base' n : Nat} {e : TypeId} {v : Value} {xs : List Value} (h : w.ownsRow base e 1 v n xs) (hb : base' ≤ base) : w.ownsRow base' e 1 v n xs := by
  obtain ⟨h1, h2⟩ := h
  refine ⟨h1, ?_⟩
  rcases h2 with h2 | ⟨g, cap, cur, hv, hg, hr⟩
  · exact .inl h2
  · exact .inr ⟨g, cap, cur, hv, Nat.le_trans hb hg, hr⟩
end Go.Proofs.Ythfhplhdfnebhaa
namespace Go.Proofs.Ythfhplhdfnebhaa
open Go Go.RowKit Fl

theorem Try.infoBoolC : (Try.prog.info? 4).map (fun i => (i.zero, i.size, i.bytes)) = some (some (.bool false), 1, 1) := by kernel_rfl
theorem slice_marks (b n : Nat) (hn : n ≤ 24) (w : World) : (Instr.sliceAt 74 (.pointer (some ⟨b, 0, none⟩)) none (some (.int .i64 (n : Int))) none).run Try.prog w = .ok (.slice (some ⟨b, 0, none⟩) n 24) w := by
  have h1 : Try.prog.arrayLen 74 = 24 := by kernel_rfl
  have h2 : Try.prog.elem 74 = 4 := by kernel_rfl
  have ht : Try.prog.underlying 74 = some (.array (Try.prog.arrayLen 74) (Try.prog.elem 74)) := by rw [h1, h2]; exact Try.undM
  obtain ⟨i0, hi, hz0, hz1, hz2⟩ := info_parts Try.infoBoolC
  rw [run_sliceAt_array_h w _ _ ht _ _ (by omega) (by rw [h1]; omega), h1, h2]
  simp [sizeOf, typeInfo, hi, hz1, slicedAt, Addr.add]
theorem marks_holds {w : World} {b : Nat} {M : List Bool} (h : MarksAt w b (padM M)) : Holds w (some ⟨b, 0, none⟩) (M.map Bo) := by
  refine .inr ⟨b, 0, rfl, h.lt, fun j hj => ?_⟩
  have hj' : j < M.length := by simpa using hj
  rw [show (⟨b, 0 + j, none⟩ : Addr) = ⟨b, j, none⟩ by simp, (h.cell (padM_lt hj')).1, padM_at hj']
  simp
end Go.Proofs.Ythfhplhdfnebhaa
namespace Go.Proofs.Ythfhplhdfnebhaa
open Go Go.RowKit Fl

/-! ### Arrays of bools are compared -/
theorem all_range_eqB : ∀ (xs ys : List Bool), xs.length = ys.length → ((List.range xs.length).all fun i => xs.getD i false == ys.getD i false) = (xs == ys)
  | [], [], _ => rfl
  | x :: xs, y :: ys, h => by
    have ih := all_range_eqB xs ys (by simpa using h)
    rw [List.length_cons, List.range_succ_eq_map, List.all_cons, List.all_map]
    simp only [List.getD_cons_zero, Function.comp_def, List.getD_cons_succ, ih]
    simp [List.cons_beq_cons]
  | [], _ :: _, h => by simp at h
  | _ :: _, [], h => by simp at h
theorem equalIn_bools (w : World) (d : Nat) (n : Nat) (t e : TypeId) (ht : Try.prog.underlying t = some (.array n e)) (he : Try.prog.underlying e = some .bool) (hsz : ∀ w, (sizeOf e).run Try.prog w = .ok 1 w)
    (xs ys : List Bool) (hx : xs.length = n) (hy : ys.length = n) :
    (Op.equalIn (d + 2) t (.agg (xs.map Bo).toArray) (.agg (ys.map Bo).toArray)).run Try.prog w = .ok (xs == ys) w := by
  rw [← all_range_eqB xs ys (hx.trans hy.symm), hx, List.range_eq_range', Op.equalIn]
  simp only [Sem.run_bind, run_underlying ht, Result.andThen_ok, hsz, Std.Legacy.Range.forIn_eq_forIn_range', Std.Legacy.Range.size, Nat.sub_zero, Nat.add_sub_cancel, Nat.div_one]
  have hl : ∀ i ∈ List.range' 0 n 1, i < n := fun i hi => by simpa using (List.mem_range'_1.1 hi).2
  generalize List.range' 0 n 1 = l at hl ⊢
  induction l with
  | nil => simp
  | cons i l ih =>
    have hi : i < n := hl i (by simp)
    have px : (part e (xs.map Bo).toArray (i * 1)).run Try.prog w = .ok (Bo (xs.getD i false)) w := by
      simp [part, isAgg, run_underlying he, List.getD, List.getElem?_eq_getElem (show i < xs.length by omega)]
    have py : (part e (ys.map Bo).toArray (i * 1)).run Try.prog w = .ok (Bo (ys.getD i false)) w := by
      simp [part, isAgg, run_underlying he, List.getD, List.getElem?_eq_getElem (show i < ys.length by omega)]
    have pe : (Op.equalIn (d + 1) e (Bo (xs.getD i false)) (Bo (ys.getD i false))).run Try.prog w = .ok (xs.getD i false == ys.getD i false) w := run_equalIn_bool w d e _ _ he
    simp only [List.forIn_cons, Sem.run_bind, px, py, pe, Result.andThen_ok, List.all_cons]
    cases hb : (xs.getD i false == ys.getD i false)
    · simp
    · simp only [Bool.not_true, Bool.false_eq_true, if_false, Sem.run_pure, Result.andThen_ok, Bool.true_and]
      exact ih fun j hj => hl j (by simp [hj])
theorem neq_marks (w : World) (xs ys : List Bool) (hx : xs.length = 24) (hy : ys.length = 24) : (binOp .neq 74 (.agg (xs.map Bo).toArray) (.agg (ys.map Bo).toArray)).run Try.prog w = .ok (.bool (!(xs == ys))) w := by
  obtain ⟨i0, hi, hz0, hz1, hz2⟩ := info_parts Try.infoBoolC
  rw [run_neq_struct, equalIn_bools w 9998 24 _ _ Try.undM (by kernel_rfl) (fun w => by simp [sizeOf, typeInfo, hi, hz1]) xs ys hx hy]
  rfl
theorem equal_none (w : World) (xs : List Bool) (hx : xs.length = 24) : (Op.equalIn 10000 74 (.agg (cellsM xs)) (.agg #[.bool false, .bool false, .bool false, .bool false, .bool false, .bool false, .bool false, .bool false, .bool false, .bool false, .bool false, .bool false, .bool false, .bool false, .bool false, .bool false, .bool false, .bool false, .bool false, .bool false, .bool false, .bool false, .bool false, .bool false])).run Try.prog w = .ok (xs == (mk24 fun _ => false)) w := by
  obtain ⟨i0, hi, hz0, hz1, hz2⟩ := info_parts Try.infoBoolC
  exact equalIn_bools w 9998 24 _ _ Try.undM (by kernel_rfl) (fun w => by simp [sizeOf, typeInfo, hi, hz1]) xs (mk24 fun _ => false) hx (mk24_length _)
theorem guard_marks (w : World) (x y : Operand) (xs ys : Array Value) : (eqGuard .neq 74 x y (.agg xs) (.agg ys)).run Try.prog w = .ok () w := run_eqGuard_agg w _ _ _ _ _ _ (by kernel_rfl)
/-! ### What the comparisons mean -/
theorem openM_get {s : List Bool} {k : Nat} (h : k < (openM s).length) : (openM s)[k] = (decide (k < s.length) && !atB s k) := mk24_at (f := fun v => decide (v < s.length) && !atB s v) h
theorem atB_not {s : List Bool} {n x : Nat} (h : x < n) : atB ((List.range n).map fun v => !atB s v) x = !atB s x := by
  rw [atB_at (by simpa using h)]
  simp
theorem padM_out {M : List Bool} {k : Nat} (hk : M.length ≤ k) (h : k < (padM M).length) : (padM M)[k] = false := by
  have e : (padM M)[k]? = (List.replicate (24 - M.length) false)[k - M.length]? := List.getElem?_append_right hk
  rw [List.getElem?_eq_getElem h, List.getElem?_replicate] at e
  split at e
  · injection e
  · cases e
theorem openM_pad {s : List Bool} (hl : s.length ≤ 24) : openM s = padM ((List.range s.length).map fun v => !atB s v) := by
  refine List.ext_getElem (by rw [openM_length, padM_length (by simpa using hl)]) fun i h1 h2 => ?_
  rw [openM_get]
  by_cases hi : i < s.length
  · rw [padM_at (by simpa using hi)]
    simp [hi]
  · rw [padM_out (by simpa using hi)]
    simp [hi]
theorem padM_inj {M M' : List Bool} (h : padM M = padM M') (hl : M.length = M'.length) : M = M' := (List.append_inj h hl).1
theorem reach_all {g : GraphD} {s : List Bool} {v : Nat} (hsl : s.length = g.length) (hl : g.length ≤ 24) : padM (reachL g s v) = openM s ↔ ∀ x, x < g.length → atB s x = false → PathG g s v x := by
  rw [openM_pad (by omega)]
  constructor
  · intro h x hx hs
    have e := padM_inj h (by rw [reachL_length, List.length_map, List.length_range, hsl])
    have h1 := (reachL_at (s := s) (v := v) hx)
    rw [e] at h1
    exact h1.1 (by rw [atB_not (by omega), hs]; rfl)
  · intro h
    congr 1
    refine (reachL_eq (by simp; omega) fun x hx => ?_).symm
    rw [atB_not (by omega)]
    constructor
    · intro h1; exact h x hx (by simpa using h1)
    · intro h1; have h2 := h1.right.2; rw [h2]; rfl
theorem open_some {s : List Bool} (hl : s.length ≤ 24) : openM s = (mk24 fun _ => false) ↔ ∀ x, x < s.length → atB s x = true := by
  constructor
  · intro h x hx
    have h1 : (openM s)[x]'(by rw [openM_length]; omega) = false := by
      have : (openM s)[x]? = some false := by rw [h, List.getElem?_eq_getElem (by rw [mk24_length]; omega), mk24_at]
      rw [List.getElem?_eq_getElem (by rw [openM_length]; omega)] at this
      injection this
    rw [openM_get] at h1
    simpa [hx] using h1
  · intro h
    unfold openM
    refine mk24_congr fun i _ => ?_
    by_cases hi : i < s.length
    · simp [h i hi]
    · simp [hi]
theorem marks_S {w : World} {Y k : Nat} {O : List Bool} {b : Bool} (h : MarksAt w Y O) (hk : O[k]? = some b) : w.cell? ⟨Y, k, none⟩ = some (.bool b) ∧ w.rangeAt Y 0 (O.map Bo) := by
  obtain ⟨hlt, he⟩ := List.getElem?_eq_some_iff.1 hk
  refine ⟨by rw [(h.cell hlt).1, he], fun j v hv => ?_⟩
  obtain ⟨hj, hv⟩ := List.getElem?_eq_some_iff.1 hv
  have hj' : j < O.length := by simpa using hj
  rw [show (⟨Y, 0 + j, none⟩ : Addr) = ⟨Y, j, none⟩ by simp, (h.cell hj').1, ← hv]
  simp
theorem MarksAt.drewN {w : World} {G : Nat} {l : List Bool} (h : MarksAt w G l) (n : Nat) : MarksAt (w.drewN n) G l := h
theorem MarksAt.drew' {w : World} {G : Nat} {l : List Bool} (h : MarksAt w G l) : MarksAt w.drew G l := h
theorem cells_from {w : World} {Y : Nat} {O : List Bool} (h : MarksAt w Y O) (hl : O.length = 24) : (loadCellsFrom ⟨Y, 0, none⟩ 0 24 #[]).run Try.prog w = .ok (O.map Bo).toArray w := by
  have h := run_loadCells_list (P := Try.prog) w ⟨Y, 0, none⟩ (O.map Bo) (fun j v hv => by
    rw [Addr.add_mid]
    obtain ⟨hj, hv⟩ := List.getElem?_eq_some_iff.1 hv
    have hj' : j < O.length := by simpa using hj
    rw [show (⟨Y, 0 + j, none⟩ : Addr) = ⟨Y, j, none⟩ by simp, (h.cell hj').1, ← hv]
    simp)
  rw [List.length_map, hl] at h
  exact h
set_option maxRecDepth 100000 in
set_option maxHeartbeats 4000000 in
theorem devMutual_c : DevMutual := by
  intro A B c d g s w hh hs hsz
  have CC := Lib.hid (devCheck_c A B c d s.length g w hh hsz.1 hsz.2)
  by_cases h0 : chkG g s.length = 0
  · have hv : validG g = true ∧ s.length = g.length := by
      rcases chkG_cases g s.length with h | h | h
      · exact h.2
      · omega
      · omega
    rw [h0] at CC ⊢
    have hl24 := validG_len hv.1
    have HSL := Lib.hid hv.2
    have CO := Lib.hid (openR_c B d s w hs (by omega))
    have CR := Lib.hid (fun W (v : Nat) (hW : Below w.heap.size w W) hvn => reached_c A c g s v W (hh.keep hW) hv.1 hv.2 hvn)
    have HT : Hid (mutP g s → mutB g s = true) := Lib.hid (fun h => (mutB_iff g s).2 ⟨h0, h⟩)
    have HF : Hid (¬ mutP g s → mutB g s = false) := Lib.hid (fun h => mutB_no fun h2 => h h2.2)
    have HRA := Lib.hid (fun (v : Nat) => reach_all (g := g) (s := s) (v := v) hv.2 hl24)
    have HOS := Lib.hid (open_some (s := s) (by omega))
    have HOC : Hid (∀ k, k < g.length → (openM s)[k]? = some (!atB s k)) := Lib.hid (fun k hk => by
      have h := HSL.out
      rw [List.getElem?_eq_getElem (by rw [openM_length]; omega), openM_get, decide_eq_true (by omega), Bool.true_and])
    have HON := Lib.hid (openM_length s)
    have HRN : Hid (∀ v, (padM (reachL g s v)).length = 24) := Lib.hid (fun v => padM_length (by rw [reachL_length]; exact hl24))
    clear hh hs h0 hv hsz
    generalize mutB g s = res at *
    go_enter Try.func23, Try.ntmps23
    go_wp2_with fail
    refine CC.out.mono ?_
    rintro e w1 ⟨rfl, rfl⟩
    go_wp2_with fail
    refine CO.out.mono ?_
    rintro e w1 ⟨rfl, hb1⟩
    have HN := Lib.hid (marks_new w1)
    have HN2 := Lib.hid (HN.out.row (l' := openM s))
    have HB := Lib.hid (below_row (hb1.alloc hb1.size (.cells #[.bool false, .bool false, .bool false, .bool false, .bool false, .bool false, .bool false, .bool false, .bool false, .bool false, .bool false, .bool false, .bool false, .bool false, .bool false, .bool false, .bool false, .bool false, .bool false, .bool false, .bool false, .bool false, .bool false, .bool false] 74)) hb1.size (cellsM (openM s)))
    have HYW := Lib.hid hb1.size
    clear hb1 CC CO
    go_wp2_with (first | refine store_marks rfl _ _ rfl _ rfl rfl HN.out (mk24_length _) HON.out ?_)
    clear HN
    generalize (w1.alloc (.cells #[.bool false, .bool false, .bool false, .bool false, .bool false, .bool false, .bool false, .bool false, .bool false, .bool false, .bool false, .bool false, .bool false, .bool false, .bool false, .bool false, .bool false, .bool false, .bool false, .bool false, .bool false, .bool false, .bool false, .bool false] 74)).setRow w1.heap.size (cellsM (openM s)) = w2 at *
    generalize w1.heap.size = Y at *
    go_loopw [19] (fun i wr => ∃ (k : Nat), i = .int .i64 k ∧ k ≤ g.length ∧ Hid (∀ u, u < k → atB s u = false → ∀ x, x < g.length → atB s x = false → PathG g s u x) ∧ Hid (MarksAt wr Y (openM s)) ∧ Hid (Below w.heap.size w wr)) (fun i _ => g.length - (intOf i).toNat)
    case atStart => exact ⟨0, rfl, Nat.zero_le _, Lib.hid (fun u hu => by omega), HN2, HB⟩
    case round =>
      clear HN2 HB
      obtain ⟨k, rfl, hk, HP, HM, HB⟩ := hrel
      by_cases hlt : k < g.length
      · have hk24 : k < 24 := by omega
        have hok := HOC.out k hlt
        rcases hsk : atB s k with _ | _
        · rw [hsk] at hok
          have hS := marks_S HM.out hok
          have hu := Try.undM
          have hi : (Try.prog.info? 74).map (·.size) = some ((openM s).map Bo).length := by rw [List.length_map, HON.out]; exact Try.sizeM
          have HKeep : Hid (∀ W, MarksAt W Y (openM s) → W.cell? ⟨Y, k, none⟩ = some (.bool true) ∧ W.rangeAt Y 0 ((openM s).map Bo)) := Lib.hid (fun W h => marks_S h hok)
          have hg1 := fun W (x y : Operand) (xs ys : Array Value) => guard_marks W x y xs ys
          have hne : ∀ W, (binOp .neq 74 (.agg ((padM (reachL g s k)).map Bo).toArray) (.agg ((openM s).map Bo).toArray)).run Try.prog W = .ok (.bool (!(padM (reachL g s k) == openM s))) W := fun W => neq_marks W _ _ (HRN.out k) HON.out
          have HCk : Hid (∀ W, Below w.heap.size w W → Calls Try.prog 37 #[.slice A g.length c, .agg ((openM s).map Bo).toArray, .int .i64 k] W fun e w' => e = .returned (.agg ((padM (reachL g s k)).map Bo).toArray) ∧ Below W.heap.size W w') := Lib.hid (fun W hW => CR.out W k hW hlt)
          obtain ⟨bb, hbb⟩ : ∃ bb, (!(padM (reachL g s k) == openM s)) = bb := ⟨_, rfl⟩
          have HBv : Hid (bb = false ↔ ∀ x, x < g.length → atB s x = false → PathG g s k x) := Lib.hid (by rw [← HRA.out k, ← hbb]; simp)
          rw [hbb] at hne
          clear HRA CR HOC hok hbb
          generalize padM (reachL g s k) = R at *
          go_wp2_with fail
          have hk24i : (k : Int) < 24 := by omega
          have hk0i : (0 : Int) ≤ (k : Int) := by omega
          refine wp_region_noPanic ?_
          refine wp_region_held_drew (S := fun W => W.cell? ⟨Y, k, none⟩ = some (.bool true) ∧ W.rangeAt Y 0 ((openM s).map Bo)) (by kernel_rfl) (HKeep.out _ HM.out.drew') (fun hHeld => ?_)
          refine wpAnyH_take (i := 0) (oi := _) (v := ?_) rfl (by kernel_rfl) (by kernel_rfl) (by kernel_rfl) (fun _ _ _ h => h) (Or.inl ⟨by rfl, ?_⟩) (by assumption) ?_
          rotate_left
          · intro w hSw
            (try dsimp only at hSw)
            go_simp
            (try with_reducible rfl)
          (try simp only [Act.put])
          refine wpAnyH_take (i := 1) (oi := _) (v := ?_) rfl (by kernel_rfl) (by kernel_rfl) (by kernel_rfl) (fun _ _ _ h => h) (Or.inl ⟨by rfl, ?_⟩) (by assumption) ?_
          rotate_left
          · intro w hSw
            (try dsimp only at hSw)
            go_simp
            (try with_reducible rfl)
          (try simp only [Act.put])
          refine wpAnyH_take (i := 2) (oi := _) (v := ?_) rfl (by kernel_rfl) (by kernel_rfl) (by kernel_rfl) (fun _ _ _ h => h) (Or.inl ⟨by rfl, ?_⟩) (by assumption) ?_
          rotate_left
          · intro w hSw
            (try dsimp only at hSw)
            go_simp
            (try with_reducible rfl)
          (try simp only [Act.put])
          refine wpAnyH_take (i := 3) (oi := _) (v := ?_) rfl (by kernel_rfl) (by kernel_rfl) (by kernel_rfl) (fun _ _ _ h => h) (Or.inl ⟨by rfl, ?_⟩) (by assumption) ?_
          rotate_left
          · intro w hSw
            (try dsimp only at hSw)
            go_simp
            (try with_reducible rfl)
          (try simp only [Act.put])
          refine wpAnyH_take (i := 4) (oi := _) (v := ?_) rfl (by kernel_rfl) (by kernel_rfl) (by kernel_rfl) (fun _ _ _ h => h) (Or.inl ⟨by rfl, ?_⟩) (by assumption) ?_
          rotate_left
          · intro w hSw
            (try dsimp only at hSw)
            go_simp
            (try with_reducible rfl)
          (try simp only [Act.put])
          refine wpAnyH_take (i := 5) (oi := _) (v := _) rfl (by kernel_rfl) (by kernel_rfl) (by kernel_rfl) (fun _ _ _ h => h) (yieldsIf_load_mid (by rfl) _ _ rfl _ _ rfl _ _ (fun w hw => hw.2) hu rfl hi) (by assumption) ?_
          (try simp only [Act.put])
          refine wpAnyH_take (i := 6) (oi := _) (v := ?_) rfl (by kernel_rfl) (by kernel_rfl) (by kernel_rfl) (fun _ _ _ h => h) (Or.inl ⟨by rfl, ?_⟩) (by assumption) ?_
          rotate_left
          · intro w hSw
            (try dsimp only at hSw)
            go_simp
            (try with_reducible rfl)
          (try simp only [Act.put])
          refine wpAnyH_take (i := 8) (oi := _) (v := _) rfl (by kernel_rfl) (by kernel_rfl) (by kernel_rfl) (fun _ _ _ h => h) (yieldsIf_load_mid (by rfl) _ _ rfl _ _ rfl _ _ (fun w hw => hw.2) hu rfl hi) (by assumption) ?_
          (try simp only [Act.put])
          refine wpAnyH_ready (rs := [7]) (by kernel_rfl) (by simp) ?_
          refine AllReadyH.cons (o := _) rfl (fun K hK => ?_) AllReadyH.nil
          go_simp
          go_at_call 37
          refine (HCk.out _ (HB.out.drew)).mono ?_
          rintro e w3 ⟨rfl, hb3⟩
          have HM3 := Lib.hid (MarksAt.keep HM.out.drew' hb3 HM.out.drew'.lt)
          have HB3 := Lib.hid (HB.out.drew.trans (hb3.mono HB.out.size))
          clear hb3
          go_wp2_with fail
          refine hK.out _ _ (HKeep.out _ HM3.out) (fun hHeld => ?_)
          clear hK K
          (try simp only [Act.put])
          refine wpAnyH_take (i := 9) (oi := _) (v := ?_) rfl (by kernel_rfl) (by kernel_rfl) (by kernel_rfl) (fun _ _ _ h => h) (Or.inl ⟨by rfl, ?_⟩) (by assumption) ?_
          rotate_left
          · intro w hSw
            (try dsimp only at hSw)
            go_simp
            (try with_reducible rfl)
          (try simp only [Act.put])
          refine wpAnyH_take (i := 10) (oi := _) (v := ?_) rfl (by kernel_rfl) (by kernel_rfl) (by kernel_rfl) (fun _ _ _ h => h) (Or.inl ⟨by rfl, ?_⟩) (by assumption) ?_
          rotate_left
          · intro w hSw
            (try dsimp only at hSw)
            go_simp
            (try with_reducible rfl)
          (try simp only [Act.put])
          refine wpAnyH_done (by kernel_rfl) ?_ _
          refine NoPanic.normal ?_
          rcases bb with _ | _
          · have HP2 : Hid (∀ u, u < k + 1 → atB s u = false → ∀ x, x < g.length → atB s x = false → PathG g s u x) := Lib.hid (fun u hu h1 => by
              rcases Nat.lt_succ_iff_lt_or_eq.1 hu with h | rfl
              · exact HP.out u h h1
              · exact HBv.out.1 rfl)
            clear hsk HP HBv hHeld hu hi hne hg1 hS HKeep HCk HM HB
            go_wp2
            go_roundw
            case rel => exact ⟨k + 1, by go_num, by omega, HP2, HM3, HB3⟩
            case measure => simp [intOf]; omega
          · have HN : Hid (res = false) := Lib.hid (HF.out fun h => by
              have := HBv.out.2 (fun x hx hs => h.2 k x hlt hx hsk hs)
              cases this)
            clear hsk HP HBv hHeld hu hi hne hg1 hS HKeep HCk HM HB
            go_wp2
            go_ret2
            exact ⟨by rw [HN.out]; rfl, HB3.out⟩
        · rw [hsk] at hok
          have ec := (marks_S HM.out hok).1
          have HP2 : Hid (∀ u, u < k + 1 → atB s u = false → ∀ x, x < g.length → atB s x = false → PathG g s u x) := Lib.hid (fun u hu h1 => by
            rcases Nat.lt_succ_iff_lt_or_eq.1 hu with h | rfl
            · exact HP.out u h h1
            · rw [hsk] at h1; cases h1)
          clear hsk hok HP
          go_wp2_with fail
          go_quiet (fail)
          have HM2 := Lib.hid (HM.out.drewN nq)
          have HB2 := Lib.hid (below_drewN HB.out nq)
          go_wp2
          go_roundw
          case rel => exact ⟨k + 1, by go_num, by omega, HP2, HM2, HB2⟩
          case measure => simp [intOf]; omega
      · obtain rfl : k = g.length := by omega
        obtain ⟨bb, hbb⟩ : ∃ bb, (!(openM s == (mk24 fun _ => false))) = bb := ⟨_, rfl⟩
        have HBv : Hid (bb = false ↔ ∀ x, x < s.length → atB s x = true) := Lib.hid (by rw [← HOS.out, ← hbb]; simp)
        have hne : ∀ W, (Op.equalIn 10000 74 (.agg (cellsM (openM s))) (.agg #[.bool false, .bool false, .bool false, .bool false, .bool false, .bool false, .bool false, .bool false, .bool false, .bool false, .bool false, .bool false, .bool false, .bool false, .bool false, .bool false, .bool false, .bool false, .bool false, .bool false, .bool false, .bool false, .bool false, .bool false])).run Try.prog W = .ok (!bb) W := fun W => by
          rw [← hbb, Bool.not_not]
          exact equal_none W _ HON.out
        have HRes : Hid (res = bb) := Lib.hid (by
          have hsl := HSL.out
          rcases bb with _ | _
          · exact HF.out fun h => by
              obtain ⟨v, hv, hv0⟩ := h.1
              have := HBv.out.1 rfl v (by omega)
              rw [hv0] at this; cases this
          · refine HT.out ⟨?_, fun u x hu hx hu0 hx0 => HP.out u hu hu0 x hx hx0⟩
            apply Classical.byContradiction
            intro hno
            have hall : ∀ x, x < s.length → atB s x = true := fun x hx => by
              rcases e : atB s x with _ | _
              · exact absurd ⟨x, by omega, e⟩ hno
              · rfl
            have := HBv.out.2 hall
            cases this)
        clear hbb HBv HP
        go_wp2_with (refine load_marks rfl _ rfl _ rfl HM.out HON.out ?_)
        go_ret2
        exact ⟨by rw [HRes.out]; rfl, HB.out⟩
  · have hcase : chkG g s.length = 19 ∨ chkG g s.length = 20 := by
      rcases chkG_cases g s.length with h | h | h
      · exact absurd h.1 h0
      · exact .inl h
      · exact .inr h
    have HE := Lib.hid (mutB_no (g := g) (s := s) fun h => h0 h.1)
    clear hh hs h0 hsz
    rcases hcase with h | h
    all_goals
      rw [h] at CC ⊢
      clear h
      go_enter Try.func23, Try.ntmps23
      go_wp2_with fail
      refine CC.out.mono ?_
      rintro e w1 ⟨rfl, rfl⟩
      go_wp2
      go_ret2
      exact ⟨by rw [HE.out]; rfl, Below.refl _ _⟩
end Go.Proofs.Ythfhplhdfnebhaa
