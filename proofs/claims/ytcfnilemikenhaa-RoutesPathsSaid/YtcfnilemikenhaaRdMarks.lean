/- reach's arrays of marks in memory; contract of openVertices. -/
import Derived.Test.YtcfnilemikenhaaRcReach
import Derived.Test.YtcfnilemikenhaaRdValid
import Derived.Laws.Rows
import Derived.Laws.Tables
namespace Go.Proofs.Ytcfnilemikenhaa
open Go Go.RowKit Fl

def mk24 (f : Nat → Bool) : List Bool := (List.range 24).map f
theorem mk24_length (f : Nat → Bool) : (mk24 f).length = 24 := by simp [mk24]
theorem mk24_at {f : Nat → Bool} {k : Nat} (h : k < (mk24 f).length) : (mk24 f)[k] = f k := by simp [mk24]
theorem mk24_congr {f f' : Nat → Bool} (h : ∀ i, i < 24 → f i = f' i) : mk24 f = mk24 f' := by
  unfold mk24
  exact List.map_congr_left fun i hi => h i (List.mem_range.1 hi)
theorem mk24_set {f f' : Nat → Bool} {k : Nat} {z : Bool} (hz : f' k = z) (hf : ∀ i, i ≠ k → f' i = f i) : (mk24 f).set k z = mk24 f' := by
  refine List.ext_getElem (by simp [mk24]) fun i h1 h2 => ?_
  rw [List.getElem_set]
  by_cases h : k = i
  · subst h; rw [if_pos rfl, mk24_at, hz]
  · rw [if_neg h, mk24_at, mk24_at, hf i (fun e => h e.symm)]
theorem mk24_none : mk24 (fun _ => false) = List.replicate 24 false := by simp [mk24, List.map_const']
/-- The cells of an array of marks. -/
def cellsM (l : List Bool) : Array Value := (l.map Bo).toArray
theorem cellsM_size (l : List Bool) : (cellsM l).size = l.length := by simp [cellsM]
theorem cellsM_one (l : List Bool) : (cellsM l).all (·.oneCell') = true := by
  refine Array.all_eq_true_iff_forall_mem.2 fun v hv => ?_
  simp only [cellsM, List.mem_toArray, List.mem_map] at hv
  obtain ⟨x, _, rfl⟩ := hv
  rfl
def MarksAt (w : World) (G : Nat) (l : List Bool) : Prop := w.heap[G]? = some (.cells (cellsM l) 56 (0, 0))
theorem MarksAt.lt {w : World} {G : Nat} {l : List Bool} (h : MarksAt w G l) : G < w.heap.size := block_lt h
theorem MarksAt.cell {w : World} {G : Nat} {l : List Bool} (h : MarksAt w G l) {k : Nat} (hk : k < l.length) : w.cell? ⟨G, k, none⟩ = some (.bool l[k]) ∧ w.frozen? ⟨G, k, none⟩ = false := by
  refine ⟨?_, ?_⟩
  · rw [cell_of_row w G k _ _ _ h]
    simp [cellsM, hk]
  · unfold MarksAt at h
    simp [World.frozen?, h]
theorem MarksAt.set {w : World} {G : Nat} {l : List Bool} (h : MarksAt w G l) (k : Nat) (z : Bool) : MarksAt (w.setCell ⟨G, k, none⟩ (.bool z)) G (l.set k z) := by
  unfold MarksAt at h ⊢
  have e : cellsM (l.set k z) = (cellsM l).setIfInBounds k (.bool z) := by
    apply Array.ext'
    simp [cellsM, List.map_set]
  rw [e]
  simp [World.setCell, Array.getElem?_modify]
  exact ⟨_, h, by simp⟩
theorem MarksAt.same {w w' : World} {G : Nat} {l : List Bool} (h : MarksAt w G l) (e : w'.heap[G]? = w.heap[G]?) : MarksAt w' G l := e.trans h
theorem MarksAt.keep {w w' : World} {G B : Nat} {l : List Bool} (h : MarksAt w G l) (hb : Below B w w') (hG : G < B) : MarksAt w' G l := h.same (hb.block G hG)
theorem MarksAt.alloc {w : World} {G : Nat} {l : List Bool} (h : MarksAt w G l) (o : Obj) : MarksAt (w.alloc o) G l := h.same (by
  show (w.heap.push o)[G]? = w.heap[G]?
  rw [Array.getElem?_push, if_neg (by have := h.lt; omega)])
theorem MarksAt.put {w : World} {G H k : Nat} {l : List Bool} {v : Value} (h : MarksAt w G l) (hn : G ≠ H) : MarksAt (w.setCell ⟨H, k, none⟩ v) G l := h.same (Below.heap_setCell _ _ _ _ hn)
theorem MarksAt.row {w : World} {G : Nat} {l l' : List Bool} (h : MarksAt w G l) : MarksAt (w.setRow G (cellsM l')) G l' := setRow_heap w G _ _ _ _ h
theorem MarksAt.rowOther {w : World} {G H : Nat} {l : List Bool} {c : Array Value} (h : MarksAt w G l) (hn : G ≠ H) : MarksAt (w.setRow H c) G l := h.same (setRow_other w H G c hn)
theorem below_row {B G : Nat} {w w' : World} (h : Below B w w') (hg : B ≤ G) (c : Array Value) : Below B w (w'.setRow G c) := by
  refine ⟨h.os, h.tape, h.output, Nat.le_trans h.size (by simp [World.setRow]), fun k hk => ?_⟩
  rw [setRow_other w' G k c (by omega)]
  exact h.block k hk
theorem Try.undM : Try.prog.underlying 56 = some (.array 24 4) := by kernel_rfl
theorem Try.sizeM : (Try.prog.info? 56).map (·.size) = some 24 := by kernel_rfl
theorem sizeMl {l : List Bool} (h : l.length = 24) : (Try.prog.info? 56).map (·.size) = some (cellsM l).size := by rw [cellsM_size, h]; exact Try.sizeM
theorem marks_new (w : World) : MarksAt (w.alloc (.cells #[.bool false, .bool false, .bool false, .bool false, .bool false, .bool false, .bool false, .bool false, .bool false, .bool false, .bool false, .bool false, .bool false, .bool false, .bool false, .bool false, .bool false, .bool false, .bool false, .bool false, .bool false, .bool false, .bool false, .bool false] 56)) w.heap.size (mk24 fun _ => false) := by
  unfold MarksAt
  rw [heap_alloc_new, mk24_none]
  rfl
section
variable {ops : Array Oper} {rest : List Oper} {o : Oper} {a : Act} {w : World} {Q : Exit → Act → World → Prop}
/-- The whole array is read. -/
theorem load_marks (hgd : o.guard = none) (x : Operand) (ho : o.op = .load 56 x) (g : Nat) (hx : a.eval x = .pointer (some ⟨g, 0, none⟩)) {l : List Bool} (hm : MarksAt w g l) (hl : l.length = 24)
    (h : wpList Try.prog ops Q rest (a.put o.dst (.agg (cellsM l))) w) : wpList Try.prog ops Q (o :: rest) a w :=
  wpList_load_row hgd _ x ho g hx _ _ _ _ hm Try.undM rfl (sizeMl hl) h
/-- The whole array is written. -/
theorem store_marks (hgd : o.guard = none) (x y : Operand) (ho : o.op = .store 56 x y) (g : Nat) (hx : a.eval x = .pointer (some ⟨g, 0, none⟩)) {l l' : List Bool} (hy : a.eval y = .agg (cellsM l')) (hm : MarksAt w g l) (hl : l.length = 24) (hl' : l'.length = 24)
    (h : wpList Try.prog ops Q rest (a.put o.dst undef) (w.setRow g (cellsM l'))) : wpList Try.prog ops Q (o :: rest) a w :=
  wpList_store_row hgd _ x y ho g _ hx hy _ _ hm (sizeMl hl') (by rw [cellsM_size, cellsM_size, hl, hl']) (cellsM_one _) h
end
/-- The open vertices. -/
def openM (s : List Bool) : List Bool := mk24 fun v => decide (v < s.length) && !atB s v
theorem openM_length (s : List Bool) : (openM s).length = 24 := mk24_length _
set_option maxRecDepth 100000 in
set_option maxHeartbeats 2000000 in
theorem open_c (A : Option Addr) (c : Nat) (s : List Bool) (w : World) (hs : Holds w A (s.map Bo)) (hl : s.length ≤ 24) :
    Calls Try.prog 37 #[.slice A s.length c] w fun e w' => e = .returned (.agg (cellsM (openM s))) ∧ Below w.heap.size w w' := by
  have HS := Lib.hid hs
  clear hs
  go_enter Try.func37, Try.ntmps37
  go_wp2
  have HM1 := Lib.hid ((marks_new w).alloc (.cells #[.bool false, .bool false, .bool false, .bool false, .bool false, .bool false, .bool false, .bool false, .bool false, .bool false, .bool false, .bool false, .bool false, .bool false, .bool false, .bool false, .bool false, .bool false, .bool false, .bool false, .bool false, .bool false, .bool false, .bool false] 56))
  have HM2 := Lib.hid (marks_new (w.alloc (.cells #[.bool false, .bool false, .bool false, .bool false, .bool false, .bool false, .bool false, .bool false, .bool false, .bool false, .bool false, .bool false, .bool false, .bool false, .bool false, .bool false, .bool false, .bool false, .bool false, .bool false, .bool false, .bool false, .bool false, .bool false] 56)))
  rw [show (w.alloc (.cells #[.bool false, .bool false, .bool false, .bool false, .bool false, .bool false, .bool false, .bool false, .bool false, .bool false, .bool false, .bool false, .bool false, .bool false, .bool false, .bool false, .bool false, .bool false, .bool false, .bool false, .bool false, .bool false, .bool false, .bool false] 56)).heap.size = w.heap.size + 1 from by simp] at HM2
  have HB2 := Lib.hid ((((Below.refl w.heap.size w).alloc (Nat.le_refl _) (.cells #[.bool false, .bool false, .bool false, .bool false, .bool false, .bool false, .bool false, .bool false, .bool false, .bool false, .bool false, .bool false, .bool false, .bool false, .bool false, .bool false, .bool false, .bool false, .bool false, .bool false, .bool false, .bool false, .bool false, .bool false] 56)).alloc (by simp) (.cells #[.bool false, .bool false, .bool false, .bool false, .bool false, .bool false, .bool false, .bool false, .bool false, .bool false, .bool false, .bool false, .bool false, .bool false, .bool false, .bool false, .bool false, .bool false, .bool false, .bool false, .bool false, .bool false, .bool false, .bool false] 56)))
  generalize (w.alloc (.cells #[.bool false, .bool false, .bool false, .bool false, .bool false, .bool false, .bool false, .bool false, .bool false, .bool false, .bool false, .bool false, .bool false, .bool false, .bool false, .bool false, .bool false, .bool false, .bool false, .bool false, .bool false, .bool false, .bool false, .bool false] 56)).alloc (.cells #[.bool false, .bool false, .bool false, .bool false, .bool false, .bool false, .bool false, .bool false, .bool false, .bool false, .bool false, .bool false, .bool false, .bool false, .bool false, .bool false, .bool false, .bool false, .bool false, .bool false, .bool false, .bool false, .bool false, .bool false] 56) = w2 at *
  obtain ⟨G, hG⟩ : ∃ G, G = w.heap.size := ⟨_, rfl⟩
  rw [← hG] at HM1 HM2 HB2 ⊢
  have HGG := Lib.hid hG
  clear hG
  have HM3 : Hid (MarksAt w2 (G + 1) (mk24 fun x => decide (x < 0) && !atB s x)) := Lib.hid (by
    rw [show (mk24 fun x => decide (x < 0) && !atB s x) = mk24 fun _ => false from mk24_congr fun i _ => by simp]; exact HM2.out)
  clear HM2
  go_loopw [8] (fun i wr => ∃ (v : Nat), i = .int .i64 v ∧ v ≤ s.length ∧ Hid (MarksAt wr (G + 1) (mk24 fun x => decide (x < v) && !atB s x)) ∧ Hid (MarksAt wr G (mk24 fun _ => false)) ∧ Hid (Below G w wr)) (fun i _ => s.length - (intOf i).toNat)
  case atStart => exact ⟨0, rfl, Nat.zero_le _, HM3, HM1, HB2⟩
  case round =>
    clear HM3 HM1 HB2
    obtain ⟨v, rfl, hv, HM, HM1, HB⟩ := hrel
    by_cases hvt : v < s.length
    · obtain ⟨b, o, rfl, e1⟩ := HS.out.bo hvt
      have hbG : b < G := by have h : b < w.heap.size := World.block_lt_of_cell? _ _ e1; have := HGG.out; omega
      have e1r : wr.cell? ⟨b, o + v, none⟩ = some (.bool s[v]) := (HB.out.cell (p := ⟨b, o + v, none⟩) hbG).trans e1
      obtain ⟨cu, c1, f1⟩ : ∃ cu, wr.cell? ⟨G + 1, v, none⟩ = some cu ∧ wr.frozen? ⟨G + 1, v, none⟩ = false := ⟨_, HM.out.cell (by rw [mk24_length]; omega)⟩
      have HM2 : Hid (MarksAt (wr.setCell ⟨G + 1, v, none⟩ (.bool (!s[v]))) (G + 1) (mk24 fun x => decide (x < v + 1) && !atB s x)) := Lib.hid (by
        rw [← mk24_set (f := fun x => decide (x < v) && !atB s x) (k := v) (z := !s[v]) (by rw [atB_at hvt]; simp) (fun i hi => by
          congr 1
          exact decide_eq_decide.2 (by omega))]
        exact HM.out.set v _)
      have HM12 := Lib.hid (HM1.out.put (H := G + 1) (k := v) (v := .bool (!s[v])) (by omega))
      have HB2 := Lib.hid (below_put (i := v) (v := .bool (!s[v])) HB.out (Nat.le_succ G))
      have hv24 : v < 24 := by omega
      clear e1 HM HM1 HB
      generalize s[v] = sv at *
      go_wp2
      go_roundw
      case rel => exact ⟨v + 1, by go_num, by omega, HM2, HM12, HB2⟩
      case measure => simp [intOf]; omega
    · obtain rfl : v = s.length := by omega
      have HMo : Hid (MarksAt wr (G + 1) (openM s)) := HM
      clear HM
      go_wp2_with (first | refine load_marks rfl _ rfl _ rfl HMo.out (openM_length s) ?_ | refine store_marks rfl _ _ rfl _ rfl rfl HM1.out (mk24_length _) (openM_length s) ?_)
      refine bodyPost_ret (v := .agg (cellsM (openM s))) ?_ rfl ⟨rfl, ?_⟩
      · rw [results_cell_row rfl _ _ _ _ _ _ _ rfl HM1.out.row Try.undM rfl (sizeMl (openM_length s))]
      · rw [← HGG.out]; exact below_row HB.out (Nat.le_refl _) _
end Go.Proofs.Ytcfnilemikenhaa
