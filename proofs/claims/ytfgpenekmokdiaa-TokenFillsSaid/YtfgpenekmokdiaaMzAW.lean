/- Joined texts. -/
import Derived.Test.YtfgpenekmokdiaaMzAR
import Derived.Test.YtfgpenekmokdiaaMzAV
import Derived.Test.YtfgpenekmokdiaaMzAF
import Derived.Test.YtfgpenekmokdiaaMzAU
import Derived.Laws.Rows
import Derived.Laws.Tables
namespace Go.Proofs.Ytfgpenekmokdiaa
open Go Go.RowKit Fl

set_option maxRecDepth 100000 in
set_option maxHeartbeats 2000000 in
theorem noneShut_c (A : Option Addr) (n c : Nat) (w : World) (hn : n ≤ 24) : Calls Try.prog 66 #[.slice A n c] w fun e w' => ∃ B d, e = .returned (.slice B n d) ∧ Holds w' B ((opensT n).map Bo) ∧ Below w.heap.size w w' := by
  go_enter Try.func66, Try.ntmps66
  go_wp2_with (refine make_any _ rfl _ _ 50 4 (.bool false) 1 Try.underlying50 Try.infoBoolS rfl (by decide) rfl .i64 .i64 _ _ n rfl rfl rfl rfl (by omega) ?_)
  intro wM ownM hbM
  have HSM : Hid (Holds wM (some ⟨w.heap.size, 0, none⟩) ((opensT n).map Bo)) := Lib.hid (by
    obtain ⟨A2, c2, h1, h2⟩ := own_is ownM
    injection h1 with h1
    subst h1
    unfold opensT
    rw [List.map_replicate]
    exact h2)
  have HBM := Lib.hid hbM
  clear ownM hbM
  go_wp2
  go_ret
  exact ⟨_, _, rfl, HSM.out, HBM.out⟩
set_option maxRecDepth 100000 in
set_option maxHeartbeats 2000000 in
theorem firstWalkT_c (A : Option Addr) (c : Nat) (g : GraphD) (w : World) (hh : RowsAt w A g) (hg : validG g = true) :
    Calls Try.prog 48 #[.slice A g.length c] w fun e w' => ∃ u, e = .returned u ∧ w'.ownsRow w.heap.size 3 1 u (girF g (opensT g.length)).length ((girF g (opensT g.length)).map Iv) ∧ Below w.heap.size w w' := by
  have HH := Lib.hid hh
  have CN := Lib.hid (noneShut_c A g.length c w (validG_len hg))
  have HZ := Lib.hid (Sized.valid hg)
  have hgl : girL g (opensT g.length) = girF g (opensT g.length) := by unfold girL chkG; rw [hg, opens_len]; simp
  have HGL := Lib.hid hgl
  clear hh hg hgl
  go_enter Try.func48, Try.ntmps48
  go_wp2_with fail
  refine CN.out.mono ?_
  rintro e w1 ⟨B, d, rfl, hs, hb1⟩
  have CG := Lib.hid (devGirth_c A B c d g (opensT g.length) w1 (HH.out.keep hb1) hs HZ.out)
  rw [opens_len] at CG
  have HB1 := Lib.hid hb1
  clear hs hb1 CN
  go_wp2_with fail
  refine CG.out.mono ?_
  rintro e w2 ⟨u, rfl, hu, hb2⟩
  rw [HGL.out] at hu
  have HU := Lib.hid (ownsRow_base hu HB1.out.size)
  have HB2 := Lib.hid (HB1.out.trans (hb2.mono HB1.out.size))
  clear hu hb2 CG
  go_wp2
  go_ret
  exact ⟨_, rfl, HU.out, HB2.out⟩
set_option maxRecDepth 100000 in
set_option maxHeartbeats 4000000 in
theorem devTight_c (A : Option Addr) (c : Nat) (g : GraphD) (w : World) (hh : RowsAt w A g) (hz : Sized g) :
    Calls Try.prog 24 #[.slice A g.length c] w (TightPost g w) := by
  have CV := Lib.hid (devValid_c A c g w hh hz.1 hz.2)
  unfold TightPost
  rcases hv : validG g with _ | _
  · rw [hv] at CV
    have HB := Lib.hid (Below.refl w.heap.size w)
    clear hh hz hv
    go_enter Try.func24, Try.ntmps24
    go_wp2_with fail
    refine CV.out.mono ?_
    rintro e w1 ⟨rfl, rfl⟩
    clear CV
    go_wp2
    go_ret3
    exact ⟨HB.out, rfl⟩
  · rw [hv] at CV
    have CW := Lib.hid (firstWalkT_c A c g w hh hv)
    have HT := Lib.hid (fun h => gir_two (sh := opensT g.length) hv h)
    have HF := Lib.hid (gir_few (sh := opensT g.length) hv)
    clear hh hz hv
    generalize girF g (opensT g.length) = W at *
    by_cases hW : W = []
    · subst hW
      go_enter Try.func24, Try.ntmps24
      go_wp2_with fail
      refine CV.out.mono ?_
      rintro e w1 ⟨rfl, rfl⟩
      clear CV
      go_wp2_with fail
      refine CW.out.mono ?_
      rintro e w2 ⟨u, rfl, hu, hb⟩
      obtain ⟨A8, c8, rfl, _⟩ := own_is hu
      have HB := Lib.hid hb
      clear hu hb CW
      go_wp2
      go_ret3
      exact ⟨HB.out, rfl⟩
    · have h2 := HT.out hW
      have h24 := HF.out
      have hne : ((W.length : Int) == 0) = false := by rw [beq_eq_false_iff_ne]; omega
      have HTE : Hid ((if True then if W = [] then True else True else True) = True) := Lib.hid (by simp)
      go_enter Try.func24, Try.ntmps24
      go_wp2_with fail
      refine CV.out.mono ?_
      rintro e w1 ⟨rfl, rfl⟩
      clear CV
      go_wp2_with fail
      refine CW.out.mono ?_
      rintro e w2 ⟨u, rfl, hu, hb⟩
      obtain ⟨q, cap, rfl, hq, hcap⟩ := own_at hu (by omega)
      have hho : Holds w2 (some ⟨q, 0, none⟩) (W.map Iv) := by
        obtain ⟨A9, c9, h8, h9⟩ := own_is hu
        injection h8 with h8
        rw [h8]; exact h9
      have hc1 : ¬ cap = 1 := by omega
      have hc2 : ¬ cap < 1 := by omega
      have hc3 : 1 ≤ cap := by omega
      have hc4 : 1 ≤ W.length := by omega
      have CC : Hid (∀ V : World, V.heap[w2.heap.size]? = some (.cells #[.slice (some ⟨q, 1, none⟩) (W.length - 1) (cap - 1), .slice (some ⟨q, 0, none⟩) 1 cap] 23 (0, 0)) → Below w2.heap.size w2 V → Calls Try.prog 49 #[.slice (some ⟨w2.heap.size, 0, none⟩) 2 2] V fun e w' => ∃ u, e = .returned u ∧ w'.ownsRow w2.heap.size 3 1 u W.length ((rotL W).map Iv) ∧ Below w2.heap.size w2 w') := Lib.hid (fun V hP hV => by
        have hb1 := holds_behind hho 1
        rw [Nat.zero_add] at hb1
        have h := concat2_c hP hV (r1 := W.drop 1) (r2 := W.take 1) (by simp) (by simp; omega) hb1 (holds_ahead hho 1) (by omega) (by omega)
        rwa [show W.length - 1 + 1 = W.length by omega] at h)
      have HA : Hid (∀ o : Obj, Below w2.heap.size w2 ((w2.alloc o).drew) ∧ Below w2.heap.size w2 (w2.drew.alloc o) ∧ Below w2.heap.size w2 (w2.alloc o)) := Lib.hid (fun o => ⟨((Below.refl _ w2).alloc (Nat.le_refl _) o).drew, (Below.refl _ w2).drew.alloc (Nat.le_refl _) o, (Below.refl _ w2).alloc (Nat.le_refl _) o⟩)
      have HU := Lib.hid hu
      have HB := Lib.hid hb
      clear hu hb CW hho HTE
      go_upto_region 6 with fail
      go_region_with (go_at_call 49; refine (CC.out _ (by first | exact heap_alloc_new _ _) (by first | exact (HA.out _).1 | exact (HA.out _).2.1 | exact (HA.out _).2.2)).mono ?_; rintro e w3 ⟨u, rfl, hu3, hb3⟩)
      all_goals
        have HU3 := Lib.hid (ownsRow_base hu3 HB.out.size)
        have HUw := Lib.hid (ownsRow_below HU.out hb3)
        have HB3 := Lib.hid (HB.out.trans (hb3.mono HB.out.size))
        clear hu3 hb3
        go_wp2
        go_ret3
        refine ⟨HB3.out, ?_⟩
        first
          | exact ⟨_, _, rfl, HUw.out, HU3.out⟩
          | (rw [if_neg hW]; exact ⟨_, _, rfl, HUw.out, HU3.out⟩)
          | (rw [if_pos trivial, if_neg hW]; exact ⟨_, _, rfl, HUw.out, HU3.out⟩)
end Go.Proofs.Ytfgpenekmokdiaa
namespace Go.Proofs.Ytfgpenekmokdiaa
open Go Go.RowKit Fl

def mk24 (f : Nat → Bool) : List Bool := (List.range 24).map f
theorem mk24_length (f : Nat → Bool) : (mk24 f).length = 24 := by simp [mk24]
theorem mk24_at {f : Nat → Bool} {k : Nat} (h : k < (mk24 f).length) : (mk24 f)[k] = f k := by simp [mk24]
theorem mk24_congr {f f' : Nat → Bool} (h : ∀ i, i < 24 → f i = f' i) : mk24 f = mk24 f' := by
  unfold mk24
  exact List.map_congr_left fun i hi => h i (List.mem_range.1 hi)
theorem mk24_set {f f' : Nat → Bool} {k : Nat} {z : Bool} (hz : f' k = z) (hf : ∀ i, i ≠ k → f' i = f i) : (mk24 f).set k z = mk24 f' := by
  refine List.ext_getElem (by simp [mk24]) fun i h1 h2 => ?_
  rw [List.getElem_set]
  by_cases h : k = i
  · subst h; rw [if_pos rfl, mk24_at, hz]
  · rw [if_neg h, mk24_at, mk24_at, hf i (fun e => h e.symm)]
theorem mk24_none : mk24 (fun _ => false) = List.replicate 24 false := by simp [mk24, List.map_const']
/-- The cells of an array of marks. -/
def cellsM (l : List Bool) : Array Value := (l.map Bo).toArray
theorem cellsM_size (l : List Bool) : (cellsM l).size = l.length := by simp [cellsM]
theorem cellsM_one (l : List Bool) : (cellsM l).all (·.oneCell') = true := by
  refine Array.all_eq_true_iff_forall_mem.2 fun v hv => ?_
  simp only [cellsM, List.mem_toArray, List.mem_map] at hv
  obtain ⟨x, _, rfl⟩ := hv
  rfl
def MarksAt (w : World) (G : Nat) (l : List Bool) : Prop := w.heap[G]? = some (.cells (cellsM l) 80 (0, 0))
theorem MarksAt.lt {w : World} {G : Nat} {l : List Bool} (h : MarksAt w G l) : G < w.heap.size := block_lt h
theorem MarksAt.cell {w : World} {G : Nat} {l : List Bool} (h : MarksAt w G l) {k : Nat} (hk : k < l.length) : w.cell? ⟨G, k, none⟩ = some (.bool l[k]) ∧ w.frozen? ⟨G, k, none⟩ = false := by
  refine ⟨?_, ?_⟩
  · rw [cell_of_row w G k _ _ _ h]
    simp [cellsM, hk]
  · unfold MarksAt at h
    simp [World.frozen?, h]
theorem MarksAt.set {w : World} {G : Nat} {l : List Bool} (h : MarksAt w G l) (k : Nat) (z : Bool) : MarksAt (w.setCell ⟨G, k, none⟩ (.bool z)) G (l.set k z) := by
  unfold MarksAt at h ⊢
  have e : cellsM (l.set k z) = (cellsM l).setIfInBounds k (.bool z) := by
    apply Array.ext'
    simp [cellsM, List.map_set]
  rw [e]
  simp [World.setCell, Array.getElem?_modify]
  exact ⟨_, h, by simp⟩
theorem MarksAt.same {w w' : World} {G : Nat} {l : List Bool} (h : MarksAt w G l) (e : w'.heap[G]? = w.heap[G]?) : MarksAt w' G l := e.trans h
theorem MarksAt.keep {w w' : World} {G B : Nat} {l : List Bool} (h : MarksAt w G l) (hb : Below B w w') (hG : G < B) : MarksAt w' G l := h.same (hb.block G hG)
theorem MarksAt.alloc {w : World} {G : Nat} {l : List Bool} (h : MarksAt w G l) (o : Obj) : MarksAt (w.alloc o) G l := h.same (by
  show (w.heap.push o)[G]? = w.heap[G]?
  rw [Array.getElem?_push, if_neg (by have := h.lt; omega)])
theorem MarksAt.put {w : World} {G H k : Nat} {l : List Bool} {v : Value} (h : MarksAt w G l) (hn : G ≠ H) : MarksAt (w.setCell ⟨H, k, none⟩ v) G l := h.same (Below.heap_setCell _ _ _ _ hn)
theorem MarksAt.row {w : World} {G : Nat} {l l' : List Bool} (h : MarksAt w G l) : MarksAt (w.setRow G (cellsM l')) G l' := setRow_heap w G _ _ _ _ h
theorem MarksAt.rowOther {w : World} {G H : Nat} {l : List Bool} {c : Array Value} (h : MarksAt w G l) (hn : G ≠ H) : MarksAt (w.setRow H c) G l := h.same (setRow_other w H G c hn)
theorem below_row {B G : Nat} {w w' : World} (h : Below B w w') (hg : B ≤ G) (c : Array Value) : Below B w (w'.setRow G c) := by
  refine ⟨h.os, h.tape, h.output, Nat.le_trans h.size (by simp [World.setRow]), fun k hk => ?_⟩
  rw [setRow_other w' G k c (by omega)]
  exact h.block k hk
theorem Try.undM : Try.prog.underlying 80 = some (.array 24 4) := by kernel_rfl
theorem Try.sizeM : (Try.prog.info? 80).map (·.size) = some 24 := by kernel_rfl
theorem sizeMl {l : List Bool} (h : l.length = 24) : (Try.prog.info? 80).map (·.size) = some (cellsM l).size := by rw [cellsM_size, h]; exact Try.sizeM
theorem marks_new (w : World) : MarksAt (w.alloc (.cells #[.bool false, .bool false, .bool false, .bool false, .bool false, .bool false, .bool false, .bool false, .bool false, .bool false, .bool false, .bool false, .bool false, .bool false, .bool false, .bool false, .bool false, .bool false, .bool false, .bool false, .bool false, .bool false, .bool false, .bool false] 80)) w.heap.size (mk24 fun _ => false) := by
  unfold MarksAt
  rw [heap_alloc_new, mk24_none]
  rfl
section
variable {ops : Array Oper} {rest : List Oper} {o : Oper} {a : Act} {w : World} {Q : Exit → Act → World → Prop}
/-- The whole array is read. -/
theorem load_marks (hgd : o.guard = none) (x : Operand) (ho : o.op = .load 80 x) (g : Nat) (hx : a.eval x = .pointer (some ⟨g, 0, none⟩)) {l : List Bool} (hm : MarksAt w g l) (hl : l.length = 24)
    (h : wpList Try.prog ops Q rest (a.put o.dst (.agg (cellsM l))) w) : wpList Try.prog ops Q (o :: rest) a w :=
  wpList_load_row hgd _ x ho g hx _ _ _ _ hm Try.undM rfl (sizeMl hl) h
/-- The whole array is written. -/
theorem store_marks (hgd : o.guard = none) (x y : Operand) (ho : o.op = .store 80 x y) (g : Nat) (hx : a.eval x = .pointer (some ⟨g, 0, none⟩)) {l l' : List Bool} (hy : a.eval y = .agg (cellsM l')) (hm : MarksAt w g l) (hl : l.length = 24) (hl' : l'.length = 24)
    (h : wpList Try.prog ops Q rest (a.put o.dst undef) (w.setRow g (cellsM l'))) : wpList Try.prog ops Q (o :: rest) a w :=
  wpList_store_row hgd _ x y ho g _ hx hy _ _ hm (sizeMl hl') (by rw [cellsM_size, cellsM_size, hl, hl']) (cellsM_one _) h
end
/-- The open vertices. -/
def openM (s : List Bool) : List Bool := mk24 fun v => decide (v < s.length) && !atB s v
theorem openM_length (s : List Bool) : (openM s).length = 24 := mk24_length _
set_option maxRecDepth 100000 in
set_option maxHeartbeats 2000000 in
theorem openR_c (A : Option Addr) (c : Nat) (s : List Bool) (w : World) (hs : Holds w A (s.map Bo)) (hl : s.length ≤ 24) :
    Calls Try.prog 58 #[.slice A s.length c] w fun e w' => e = .returned (.agg (cellsM (openM s))) ∧ Below w.heap.size w w' := by
  have HS := Lib.hid hs
  clear hs
  go_enter Try.func58, Try.ntmps58
  go_wp2
  have HM1 := Lib.hid ((marks_new w).alloc (.cells #[.bool false, .bool false, .bool false, .bool false, .bool false, .bool false, .bool false, .bool false, .bool false, .bool false, .bool false, .bool false, .bool false, .bool false, .bool false, .bool false, .bool false, .bool false, .bool false, .bool false, .bool false, .bool false, .bool false, .bool false] 80))
  have HM2 := Lib.hid (marks_new (w.alloc (.cells #[.bool false, .bool false, .bool false, .bool false, .bool false, .bool false, .bool false, .bool false, .bool false, .bool false, .bool false, .bool false, .bool false, .bool false, .bool false, .bool false, .bool false, .bool false, .bool false, .bool false, .bool false, .bool false, .bool false, .bool false] 80)))
  rw [show (w.alloc (.cells #[.bool false, .bool false, .bool false, .bool false, .bool false, .bool false, .bool false, .bool false, .bool false, .bool false, .bool false, .bool false, .bool false, .bool false, .bool false, .bool false, .bool false, .bool false, .bool false, .bool false, .bool false, .bool false, .bool false, .bool false] 80)).heap.size = w.heap.size + 1 from by simp] at HM2
  have HB2 := Lib.hid ((((Below.refl w.heap.size w).alloc (Nat.le_refl _) (.cells #[.bool false, .bool false, .bool false, .bool false, .bool false, .bool false, .bool false, .bool false, .bool false, .bool false, .bool false, .bool false, .bool false, .bool false, .bool false, .bool false, .bool false, .bool false, .bool false, .bool false, .bool false, .bool false, .bool false, .bool false] 80)).alloc (by simp) (.cells #[.bool false, .bool false, .bool false, .bool false, .bool false, .bool false, .bool false, .bool false, .bool false, .bool false, .bool false, .bool false, .bool false, .bool false, .bool false, .bool false, .bool false, .bool false, .bool false, .bool false, .bool false, .bool false, .bool false, .bool false] 80)))
  generalize (w.alloc (.cells #[.bool false, .bool false, .bool false, .bool false, .bool false, .bool false, .bool false, .bool false, .bool false, .bool false, .bool false, .bool false, .bool false, .bool false, .bool false, .bool false, .bool false, .bool false, .bool false, .bool false, .bool false, .bool false, .bool false, .bool false] 80)).alloc (.cells #[.bool false, .bool false, .bool false, .bool false, .bool false, .bool false, .bool false, .bool false, .bool false, .bool false, .bool false, .bool false, .bool false, .bool false, .bool false, .bool false, .bool false, .bool false, .bool false, .bool false, .bool false, .bool false, .bool false, .bool false] 80) = w2 at *
  obtain ⟨G, hG⟩ : ∃ G, G = w.heap.size := ⟨_, rfl⟩
  rw [← hG] at HM1 HM2 HB2 ⊢
  have HGG := Lib.hid hG
  clear hG
  have HM3 : Hid (MarksAt w2 (G + 1) (mk24 fun x => decide (x < 0) && !atB s x)) := Lib.hid (by
    rw [show (mk24 fun x => decide (x < 0) && !atB s x) = mk24 fun _ => false from mk24_congr fun i _ => by simp]; exact HM2.out)
  clear HM2
  go_loopw [8] (fun i wr => ∃ (v : Nat), i = .int .i64 v ∧ v ≤ s.length ∧ Hid (MarksAt wr (G + 1) (mk24 fun x => decide (x < v) && !atB s x)) ∧ Hid (MarksAt wr G (mk24 fun _ => false)) ∧ Hid (Below G w wr)) (fun i _ => s.length - (intOf i).toNat)
  case atStart => exact ⟨0, rfl, Nat.zero_le _, HM3, HM1, HB2⟩
  case round =>
    clear HM3 HM1 HB2
    obtain ⟨v, rfl, hv, HM, HM1, HB⟩ := hrel
    by_cases hvt : v < s.length
    · obtain ⟨b, o, rfl, e1⟩ := HS.out.bo hvt
      have hbG : b < G := by have h : b < w.heap.size := World.block_lt_of_cell? _ _ e1; have := HGG.out; omega
      have e1r : wr.cell? ⟨b, o + v, none⟩ = some (.bool s[v]) := (HB.out.cell (p := ⟨b, o + v, none⟩) hbG).trans e1
      obtain ⟨cu, c1, f1⟩ : ∃ cu, wr.cell? ⟨G + 1, v, none⟩ = some cu ∧ wr.frozen? ⟨G + 1, v, none⟩ = false := ⟨_, HM.out.cell (by rw [mk24_length]; omega)⟩
      have HM2 : Hid (MarksAt (wr.setCell ⟨G + 1, v, none⟩ (.bool (!s[v]))) (G + 1) (mk24 fun x => decide (x < v + 1) && !atB s x)) := Lib.hid (by
        rw [← mk24_set (f := fun x => decide (x < v) && !atB s x) (k := v) (z := !s[v]) (by rw [atB_at hvt]; simp) (fun i hi => by
          congr 1
          exact decide_eq_decide.2 (by omega))]
        exact HM.out.set v _)
      have HM12 := Lib.hid (HM1.out.put (H := G + 1) (k := v) (v := .bool (!s[v])) (by omega))
      have HB2 := Lib.hid (below_put (i := v) (v := .bool (!s[v])) HB.out (Nat.le_succ G))
      have hv24 : v < 24 := by omega
      clear e1 HM HM1 HB
      generalize s[v] = sv at *
      go_wp2
      go_roundw
      case rel => exact ⟨v + 1, by go_num, by omega, HM2, HM12, HB2⟩
      case measure => simp [intOf]; omega
    · obtain rfl : v = s.length := by omega
      have HMo : Hid (MarksAt wr (G + 1) (openM s)) := HM
      clear HM
      go_wp2_with (first | refine load_marks rfl _ rfl _ rfl HMo.out (openM_length s) ?_ | refine store_marks rfl _ _ rfl _ rfl rfl HM1.out (mk24_length _) (openM_length s) ?_)
      refine bodyPost_ret (v := .agg (cellsM (openM s))) ?_ rfl ⟨rfl, ?_⟩
      · rw [results_cell_row rfl _ _ _ _ _ _ _ rfl HM1.out.row Try.undM rfl (sizeMl (openM_length s))]
      · rw [← HGG.out]; exact below_row HB.out (Nat.le_refl _) _
end Go.Proofs.Ytfgpenekmokdiaa
namespace Go.Proofs.Ytfgpenekmokdiaa
open Go Go.RowKit Fl

/-- Marks of the vertices of a graph, and false behind them. -/
def padM (M : List Bool) : List Bool := M ++ List.replicate (24 - M.length) false
theorem padM_length {M : List Bool} (h : M.length ≤ 24) : (padM M).length = 24 := by simp [padM]; omega
theorem padM_lt {M : List Bool} {k : Nat} (h : k < M.length) : k < (padM M).length := by simp [padM]; omega
theorem padM_at {M : List Bool} {k : Nat} (h : k < M.length) : (padM M)[k]'(padM_lt h) = M[k] := by simp [padM, h]
theorem padM_set {M : List Bool} {k : Nat} {z : Bool} (h : k < M.length) : (padM M).set k z = padM (M.set k z) := by
  unfold padM
  rw [List.set_append_left _ _ h, List.length_set]
theorem padM_none {n : Nat} (h : n ≤ 24) : padM (List.replicate n false) = mk24 fun _ => false := by
  unfold padM
  rw [List.length_replicate, List.replicate_append_replicate, mk24_none]
  congr 1
  omega
theorem openM_at {s : List Bool} {k : Nat} (h : k < s.length) (h24 : k < 24) : (openM s)[k]'(by rw [openM_length]; exact h24) = !s[k] := by
  unfold openM
  rw [mk24_at, atB_at h]
  simp [h]
theorem ownR_other {w w' : World} {base n : Nat} {e : TypeId} {v : Value} {xs : List Value} (h : w.ownsRow base e 1 v n xs) (hw : ∀ b, base ≤ b → w'.heap[b]? = w.heap[b]?) : w'.ownsRow base e 1 v n xs := by
  obtain ⟨h1, h2⟩ := h
  refine ⟨h1, ?_⟩
  rcases h2 with h2 | ⟨g, cap, cur, hv, hb, hh, hr⟩
  · exact .inl h2
  · exact .inr ⟨g, cap, cur, hv, hb, (hw g hb).trans hh, hr⟩
theorem own_newI {w : World} {base q : Nat} {z : Int} (h : w.heap[q]? = some (.cells #[Iv z] 3 (0, 0))) (hb : base ≤ q) : w.ownsRow base 3 1 (.slice (some ⟨q, 0, none⟩) 1 1) 1 ([z].map Iv) :=
  ⟨rfl, .inr ⟨q, 1, #[Iv z], rfl, hb, h, by omega, by unfold maxLen; omega, rfl, rfl⟩⟩
theorem MarksAt.grown {w w' : World} {H : Nat} {l : List Bool} {row : Option Nat} (h : MarksAt w H l) (hg : w.grownBy w' row) (hn : some H ≠ row) : MarksAt w' H l := h.same (hg.block H h.lt hn)
/-- What the three arrays of reached are at the start. -/
theorem marks3 (w : World) (O : List Bool) : MarksAt (((w.alloc (.cells (cellsM O) 80)).alloc (.cells #[.bool false, .bool false, .bool false, .bool false, .bool false, .bool false, .bool false, .bool false, .bool false, .bool false, .bool false, .bool false, .bool false, .bool false, .bool false, .bool false, .bool false, .bool false, .bool false, .bool false, .bool false, .bool false, .bool false, .bool false] 80)).alloc (.cells #[.bool false, .bool false, .bool false, .bool false, .bool false, .bool false, .bool false, .bool false, .bool false, .bool false, .bool false, .bool false, .bool false, .bool false, .bool false, .bool false, .bool false, .bool false, .bool false, .bool false, .bool false, .bool false, .bool false, .bool false] 80)) w.heap.size O ∧
    MarksAt (((w.alloc (.cells (cellsM O) 80)).alloc (.cells #[.bool false, .bool false, .bool false, .bool false, .bool false, .bool false, .bool false, .bool false, .bool false, .bool false, .bool false, .bool false, .bool false, .bool false, .bool false, .bool false, .bool false, .bool false, .bool false, .bool false, .bool false, .bool false, .bool false, .bool false] 80)).alloc (.cells #[.bool false, .bool false, .bool false, .bool false, .bool false, .bool false, .bool false, .bool false, .bool false, .bool false, .bool false, .bool false, .bool false, .bool false, .bool false, .bool false, .bool false, .bool false, .bool false, .bool false, .bool false, .bool false, .bool false, .bool false] 80)) (w.heap.size + 1) (mk24 fun _ => false) ∧
    MarksAt (((w.alloc (.cells (cellsM O) 80)).alloc (.cells #[.bool false, .bool false, .bool false, .bool false, .bool false, .bool false, .bool false, .bool false, .bool false, .bool false, .bool false, .bool false, .bool false, .bool false, .bool false, .bool false, .bool false, .bool false, .bool false, .bool false, .bool false, .bool false, .bool false, .bool false] 80)).alloc (.cells #[.bool false, .bool false, .bool false, .bool false, .bool false, .bool false, .bool false, .bool false, .bool false, .bool false, .bool false, .bool false, .bool false, .bool false, .bool false, .bool false, .bool false, .bool false, .bool false, .bool false, .bool false, .bool false, .bool false, .bool false] 80)) (w.heap.size + 1 + 1) (mk24 fun _ => false) ∧
    Below w.heap.size w (((w.alloc (.cells (cellsM O) 80)).alloc (.cells #[.bool false, .bool false, .bool false, .bool false, .bool false, .bool false, .bool false, .bool false, .bool false, .bool false, .bool false, .bool false, .bool false, .bool false, .bool false, .bool false, .bool false, .bool false, .bool false, .bool false, .bool false, .bool false, .bool false, .bool false] 80)).alloc (.cells #[.bool false, .bool false, .bool false, .bool false, .bool false, .bool false, .bool false, .bool false, .bool false, .bool false, .bool false, .bool false, .bool false, .bool false, .bool false, .bool false, .bool false, .bool false, .bool false, .bool false, .bool false, .bool false, .bool false, .bool false] 80)) ∧
    (((w.alloc (.cells (cellsM O) 80)).alloc (.cells #[.bool false, .bool false, .bool false, .bool false, .bool false, .bool false, .bool false, .bool false, .bool false, .bool false, .bool false, .bool false, .bool false, .bool false, .bool false, .bool false, .bool false, .bool false, .bool false, .bool false, .bool false, .bool false, .bool false, .bool false] 80)).alloc (.cells #[.bool false, .bool false, .bool false, .bool false, .bool false, .bool false, .bool false, .bool false, .bool false, .bool false, .bool false, .bool false, .bool false, .bool false, .bool false, .bool false, .bool false, .bool false, .bool false, .bool false, .bool false, .bool false, .bool false, .bool false] 80)).heap.size = w.heap.size + 1 + 1 + 1 := by
  have h0 : MarksAt (w.alloc (.cells (cellsM O) 80)) w.heap.size O := heap_alloc_new _ _
  have h1 := marks_new (w.alloc (.cells (cellsM O) 80))
  have h2 := marks_new ((w.alloc (.cells (cellsM O) 80)).alloc (.cells #[.bool false, .bool false, .bool false, .bool false, .bool false, .bool false, .bool false, .bool false, .bool false, .bool false, .bool false, .bool false, .bool false, .bool false, .bool false, .bool false, .bool false, .bool false, .bool false, .bool false, .bool false, .bool false, .bool false, .bool false] 80))
  rw [show (w.alloc (.cells (cellsM O) 80)).heap.size = w.heap.size + 1 from by simp] at h1
  rw [show ((w.alloc (.cells (cellsM O) 80)).alloc (.cells #[.bool false, .bool false, .bool false, .bool false, .bool false, .bool false, .bool false, .bool false, .bool false, .bool false, .bool false, .bool false, .bool false, .bool false, .bool false, .bool false, .bool false, .bool false, .bool false, .bool false, .bool false, .bool false, .bool false, .bool false] 80)).heap.size = w.heap.size + 1 + 1 from by simp] at h2
  exact ⟨(h0.alloc _).alloc _, h1.alloc _, h2, (((Below.refl _ _).alloc (Nat.le_refl _) _).alloc (by simp) _).alloc (by simp; omega) _, by simp⟩
set_option maxRecDepth 100000 in
set_option maxHeartbeats 4000000 in
theorem reached_c (A : Option Addr) (c : Nat) (g : GraphD) (s : List Bool) (v : Nat) (w : World) (hh : RowsAt w A g) (hg : validG g = true) (hsl : s.length = g.length) (hv : v < g.length) :
    Calls Try.prog 57 #[.slice A g.length c, .agg (cellsM (openM s)), .int .i64 v] w fun e w' => e = .returned (.agg (cellsM (padM (reachL g s v)))) ∧ Below w.heap.size w w' := by
  have hvs : v < s.length := by omega
  have hl24 := validG_len hg
  have hv24 : v < 24 := by omega
  have hat := atB_at hvs
  have hop := openM_at hvs hv24
  have HH := Lib.hid hh
  have HG := Lib.hid hg
  have HSL := Lib.hid hsl
  have HR24 := Lib.hid (validG_short hg)
  have HOL := Lib.hid (openM_length s)
  have HOP := Lib.hid (fun (k : Nat) (h : k < s.length) (h24 : k < 24) => openM_at h h24)
  have M3 := marks3 w (openM s)
  clear hh hg hsl
  obtain ⟨W, hW⟩ : ∃ W, (((w.alloc (.cells (cellsM (openM s)) 80)).alloc (.cells #[.bool false, .bool false, .bool false, .bool false, .bool false, .bool false, .bool false, .bool false, .bool false, .bool false, .bool false, .bool false, .bool false, .bool false, .bool false, .bool false, .bool false, .bool false, .bool false, .bool false, .bool false, .bool false, .bool false, .bool false] 80)).alloc (.cells #[.bool false, .bool false, .bool false, .bool false, .bool false, .bool false, .bool false, .bool false, .bool false, .bool false, .bool false, .bool false, .bool false, .bool false, .bool false, .bool false, .bool false, .bool false, .bool false, .bool false, .bool false, .bool false, .bool false, .bool false] 80)) = W := ⟨_, rfl⟩
  rw [hW] at M3
  obtain ⟨G, hG⟩ : ∃ G, w.heap.size = G := ⟨_, rfl⟩
  rw [hG] at M3
  obtain ⟨m0, m1, m2, hb, hWs⟩ := M3
  have HGG := Lib.hid hG
  have e0 : W.cell? ⟨G, v, none⟩ = some (.bool (!s[v])) := by rw [(m0.cell (k := v) (by rw [openM_length]; exact hv24)).1, hop]
  have H0 := Lib.hid m0
  have H1 := Lib.hid m1
  have H2 := Lib.hid m2
  have HB := Lib.hid hb
  clear hop m0 m1 m2 hb
  rcases hsv : s[v] with _ | _
  · rw [hsv] at hat e0
    have HI := Lib.hid (bfs_start hv hat)
    obtain ⟨cu, c1, f1⟩ : ∃ cu, W.cell? ⟨G + 1 + 1, v, none⟩ = some cu ∧ W.frozen? ⟨G + 1 + 1, v, none⟩ = false := ⟨_, H2.out.cell (by rw [mk24_length]; exact hv24)⟩
    have HU : Hid (1 + unm ((List.replicate g.length false).set v true) = g.length) := Lib.hid (by
      have h := unm_set (M := List.replicate g.length false) (y := v) (by simpa using hv) (by unfold atB; rw [List.getD_eq_getElem?_getD, List.getElem?_replicate]; split <;> rfl)
      have h2 : unm (List.replicate g.length false) = g.length := by simp [unm]
      omega)
    have K0 := Lib.hid ((H0.out.put (H := G + 1 + 1) (k := v) (v := .bool true) (by omega)).alloc (.cells #[.int .i64 v] 3))
    have K1 := Lib.hid ((H1.out.put (H := G + 1 + 1) (k := v) (v := .bool true) (by omega)).alloc (.cells #[.int .i64 v] 3))
    have K2 : Hid (MarksAt ((W.setCell ⟨G + 1 + 1, v, none⟩ (.bool true)).alloc (.cells #[.int .i64 v] 3)) (G + 1 + 1) (padM ((List.replicate g.length false).set v true))) := Lib.hid (by
      rw [← padM_set (by simpa using hv), padM_none hl24]
      exact (H2.out.set v true).alloc _)
    have KB := Lib.hid ((below_put (i := v) (v := .bool true) HB.out (show G ≤ G + 1 + 1 by omega)).alloc (by simp [World.setCell]; omega) (.cells #[.int .i64 v] 3))
    have KO : Hid (((W.setCell ⟨G + 1 + 1, v, none⟩ (.bool true)).alloc (.cells #[.int .i64 v] 3)).ownsRow (G + 1 + 1 + 1) 3 1 (.slice (some ⟨G + 1 + 1 + 1, 0, none⟩) 1 1) 1 ([(v : Int)].map Iv)) := Lib.hid (own_newI (by
      have h := alloc_set W ⟨G + 1 + 1, v, none⟩ (.bool true) (.cells #[.int .i64 v] 3)
      rwa [hWs] at h) (Nat.le_refl _))
    have KS : G + 1 + 1 + 1 ≤ ((W.setCell ⟨G + 1 + 1, v, none⟩ (.bool true)).alloc (.cells #[.int .i64 v] 3)).heap.size := by simp [World.setCell]; omega
    clear H0 H1 H2 HB hsv hat
    go_enter Try.func57, Try.ntmps57
    go_wp2
    have hM0l : ((List.replicate g.length false).set v true).length = g.length := by simp
    generalize (List.replicate g.length false).set v true = M0 at *
    generalize (W.setCell ⟨G + 1 + 1, v, none⟩ (.bool true)).alloc (.cells #[.int .i64 v] 3) = w3 at *
    clear e0 c1 f1 hW hWs hG
    go_loopw [8, 9] (fun lv iv wr => ∃ (i : Nat) (L : List Int) (q cap : Nat) (M : List Bool), lv = .slice (some ⟨q, 0, none⟩) L.length cap ∧ iv = .int .i64 i ∧ i ≤ L.length ∧ Hid (BfsInv g s v M (L.drop i)) ∧ L.length + unm M = g.length ∧
      Hid (wr.ownsRow (G + 1 + 1 + 1) 3 1 (.slice (some ⟨q, 0, none⟩) L.length cap) L.length (L.map Iv)) ∧ Hid (MarksAt wr G (openM s)) ∧ Hid (MarksAt wr (G + 1) (mk24 fun _ => false)) ∧ Hid (MarksAt wr (G + 1 + 1) (padM M)) ∧ Hid (Below G w wr) ∧ G + 1 + 1 + 1 ≤ wr.heap.size) (fun _ iv _ => g.length - (intOf iv).toNat)
    case atStart => exact ⟨0, [(v : Int)], _, _, M0, rfl, rfl, Nat.zero_le _, HI, HU.out, KO, K0, K1, K2, KB, KS⟩
    case round =>
      clear HI HU KO K0 K1 K2 KB KS hM0l M0
      obtain ⟨i, L, q, cap, M, rfl, rfl, hi, HI, hcnt, HO, H0, H1, H2, HB, hsz⟩ := hrel
      by_cases hlt : i < L.length
      · have hpop := HI.out
        rw [List.drop_eq_getElem_cons hlt] at hpop
        obtain ⟨xn, hx, hxn, hmid⟩ := hpop.pop
        have HM := Lib.hid hmid
        have ex : wr.cell? ⟨q, i, none⟩ = some (.int .i64 xn) := by
          rw [(own_get HO.out (i := i) (u := Iv L[i]) (by simp [hlt])).1, hx]
        obtain ⟨bg, og, A2, c2, rfl, e1, h1⟩ := HH.out.one hxn
        have hbg : bg < G := by have h : bg < w.heap.size := World.block_lt_of_cell? _ _ e1; have := HGG.out; omega
        have e1r : wr.cell? ⟨bg, og + xn, none⟩ = some (.slice A2 g[xn].length c2) := (HB.out.cell (p := ⟨bg, og + xn, none⟩) hbg).trans e1
        have hr24 := HR24.out _ (List.getElem_mem hxn)
        have HX := Lib.hid (rowOk_row HG.out hxn)
        have hrow := rowG_at hxn
        rw [hrow] at HX
        have HRow := Lib.hid hrow
        have HR1 := Lib.hid h1
        clear hmid hpop HI e1 h1 hrow hx
        generalize g[xn] = r at *
        have hi1 : i + 1 ≤ L.length := hlt
        go_wp2
        clear ex e1r
        go_loopw [8, 35] (fun lv jv wr => ∃ (m : Nat) (L : List Int) (q cap : Nat) (M : List Bool), lv = .slice (some ⟨q, 0, none⟩) L.length cap ∧ jv = .int .i64 m ∧ m ≤ r.length ∧ i + 1 ≤ L.length ∧ Hid (BfsMid g s v M (L.drop (i + 1)) xn m) ∧ L.length + unm M = g.length ∧
          Hid (wr.ownsRow (G + 1 + 1 + 1) 3 1 (.slice (some ⟨q, 0, none⟩) L.length cap) L.length (L.map Iv)) ∧ Hid (MarksAt wr G (openM s)) ∧ Hid (MarksAt wr (G + 1) (mk24 fun _ => false)) ∧ Hid (MarksAt wr (G + 1 + 1) (padM M)) ∧ Hid (Below G w wr) ∧ G + 1 + 1 + 1 ≤ wr.heap.size) (fun _ jv _ => r.length - (intOf jv).toNat)
        case atStart => exact ⟨0, L, _, _, M, rfl, rfl, Nat.zero_le _, hi1, HM, hcnt, HO, H0, H1, H2, HB, hsz⟩
        case round =>
          clear HM HO H0 H1 H2 HB hsz hcnt hlt hi1 hi
          obtain ⟨m, L, q, cap, M, rfl, rfl, hm, hi1, HM, hcnt, HO, H0, H1, H2, HB, hsz⟩ := hrel
          by_cases hmlt : m < r.length
          · obtain ⟨br, or_, rfl, e2⟩ := HR1.out.iv hmlt
            have hbr : br < G := by have h : br < w.heap.size := World.block_lt_of_cell? _ _ e2; have := HGG.out; omega
            have e2r : wr.cell? ⟨br, or_ + m, none⟩ = some (.int .i64 r[m]) := (HB.out.cell (p := ⟨br, or_ + m, none⟩) hbr).trans e2
            obtain ⟨y0, y1, y2⟩ := HX.out r[m] (List.getElem_mem hmlt)
            obtain ⟨y, hy⟩ := Int.eq_ofNat_of_zero_le y0
            have hmr : m < (rowG g xn).length := by rw [HRow.out]; exact hmlt
            have hyr : (rowG g xn)[m] = (y : Int) := by
              have h : (rowG g xn)[m]? = some r[m] := by rw [HRow.out]; exact List.getElem?_eq_getElem hmlt
              rw [List.getElem?_eq_getElem hmr] at h
              injection h with h
              rw [h]; exact hy
            rw [hy] at e2r y1
            have hyn : y < g.length := by omega
            have hys : y < s.length := by have := HSL.out; omega
            have hyM : y < M.length := by rw [HM.out.len]; exact hyn
            have hy24 : y < 24 := by omega
            have eo : wr.cell? ⟨G, y, none⟩ = some (.bool (!s[y])) := by rw [(H0.out.cell (k := y) (by rw [openM_length]; exact hy24)).1, HOP.out y hys hy24]
            obtain ⟨em, fm⟩ := H2.out.cell (k := y) (padM_lt hyM)
            rw [padM_at hyM] at em
            have hS := atB_at hys
            have hMk := atB_at hyM
            have HSkip := Lib.hid (fun h => HM.out.skip (m := m) h)
            have HMark := Lib.hid (fun h => HM.out.mark (y := y) hmr hyr hyn h)
            have HYr := Lib.hid hyr
            have HUn := Lib.hid (unm_set hyM)
            have hML : M.length ≤ 24 := by rw [HM.out.len]; exact hl24
            have hcase : s[y] = true ∨ s[y] = false ∧ M[y] = true ∨ s[y] = false ∧ M[y] = false := by rcases s[y] with _ | _ <;> rcases M[y] with _ | _ <;> simp
            clear e2 y0 y1 y2 hy hyr HM
            rcases hcase with h1 | ⟨h1, h2⟩ | ⟨h1, h2⟩
            · have HM2 := Lib.hid (HSkip.out (fun _ z hz => .inl (by have : z = y := by have := HYr.out; omega
                                                                     subst this; rw [hS, h1])))
              rw [h1] at eo
              clear HSkip HMark HYr HUn em fm hS hMk h1
              go_wp2
              go_roundw
              case rel => exact ⟨m + 1, L, _, _, M, rfl, by go_num, by omega, hi1, HM2, hcnt, HO, H0, H1, H2, HB, hsz⟩
              case measure => simp [intOf]; omega
            · have HM2 := Lib.hid (HSkip.out (fun _ z hz => .inr (by have : z = y := by have := HYr.out; omega
                                                                     subst this; rw [hMk, h2])))
              rw [h1] at eo
              rw [h2] at em
              clear HSkip HMark HYr HUn hS hMk h1 h2
              go_wp2
              go_roundw
              case rel => exact ⟨m + 1, L, _, _, M, rfl, by go_num, by omega, hi1, HM2, hcnt, HO, H0, H1, H2, HB, hsz⟩
              case measure => simp [intOf]; omega
            · have HM2 := Lib.hid (HMark.out (by rw [hS, h1]))
              have hun := HUn.out (by rw [hMk, h2])
              rw [h1] at eo
              rw [h2] at em
              have N0 := Lib.hid (H0.out.put (H := G + 1 + 1) (k := y) (v := .bool true) (by omega))
              have N1 := Lib.hid (H1.out.put (H := G + 1 + 1) (k := y) (v := .bool true) (by omega))
              have N2 := Lib.hid (H2.out.set y true)
              rw [padM_set hyM] at N2
              have NB := Lib.hid (below_put (i := y) (v := .bool true) HB.out (show G ≤ G + 1 + 1 by omega))
              have NO := Lib.hid (ownR_other (w' := wr.setCell ⟨G + 1 + 1, y, none⟩ (.bool true)) HO.out (fun b hb => Below.heap_setCell _ _ _ _ (show b ≠ G + 1 + 1 by omega)))
              have NS : G + 1 + 1 + 1 ≤ (wr.setCell ⟨G + 1 + 1, y, none⟩ (.bool true)).heap.size := by simpa [World.setCell] using hsz
              have hLs : L.length ≤ 24 := by omega
              have hqb : G + 1 + 1 + 1 ≤ q := own_base HO.out q rfl
              clear HSkip HMark HYr HUn hS hMk h1 h2 HO H0 H1 H2 HB
              obtain ⟨i0, hi0, hz0, hz1, hz2⟩ := info_parts Try.infoIntG
              have NOa := Lib.hid (fun ob => NO.out.alloc ob)
              go_wp2_with (at_builtin; refine wpList_append_lies _ rfl _ _ 23 rfl (G + 1 + 1 + 1) 3 i0 (.int .i64 0) 1 8 Try.underlying23 hi0 hz0 hz1 hz2 rfl (by omega) (.slice (some ⟨q, 0, none⟩) L.length cap) L.length (L.map Iv) (by rfl) (NOa.out _) ⟨_, 0, none⟩ 1 1 [Iv y] (by rfl) (by rfl) (World.news_of_block (cs := #[Iv y]) (t := 3) (fr := (0, 0)) (alloc_set _ _ _ _)) (by simp [Value.oneCell']) (by omega) (by unfold maxLen; omega) (by omega) (by simp [World.setCell]; omega) _ rfl ?_)
              intro q8 cap8 w8 hown hgrow hat hlt8
              have K0 := Lib.hid ((N0.out.alloc (.cells #[.int .i64 y] 3)).grown hgrow (by intro e; injection e with e; simp at e; omega))
              have K1 := Lib.hid ((N1.out.alloc (.cells #[.int .i64 y] 3)).grown hgrow (by intro e; injection e with e; simp at e; omega))
              have K2 := Lib.hid ((N2.out.alloc (.cells #[.int .i64 y] 3)).grown hgrow (by intro e; injection e with e; simp at e; omega))
              have KB := Lib.hid ((NB.out.alloc (by simp [World.setCell]; omega) (.cells #[.int .i64 y] 3)).grown hgrow (by simp [World.setCell]; omega) (fun k hk => by injection hk with hk; simp at hk; omega))
              have KS : G + 1 + 1 + 1 ≤ w8.heap.size := by have h := hgrow.size; simp [World.setCell] at h; omega
              have KO : Hid (w8.ownsRow (G + 1 + 1 + 1) 3 1 (.slice (some ⟨q8, 0, none⟩) (L ++ [(y : Int)]).length cap8) (L ++ [(y : Int)]).length ((L ++ [(y : Int)]).map Iv)) := Lib.hid (by simpa using hown)
              have HM3 : Hid (BfsMid g s v (M.set y true) ((L ++ [(y : Int)]).drop (i + 1)) xn (m + 1)) := Lib.hid (by rw [List.drop_append_of_le_length hi1]; exact HM2.out)
              have hcnt3 : (L ++ [(y : Int)]).length + unm (M.set y true) = g.length := by simp; omega
              have hi3 : i + 1 ≤ (L ++ [(y : Int)]).length := by simp; omega
              have hvl : (L.length : Int) + 1 = ((L ++ [(y : Int)]).length : Int) := by simp
              clear hown hgrow hat hlt8 N0 N1 N2 NB NO NOa HM2 hun em fm eo
              go_wp2
              go_roundw
              case rel => exact ⟨m + 1, L ++ [(y : Int)], q8, cap8, M.set y true, by simp, by go_num, by omega, hi3, HM3, hcnt3, KO, K0, K1, K2, KB, KS⟩
              case measure => simp [intOf]; omega
          · have HI2 := Lib.hid (HM.out.over (by rw [HRow.out]; omega))
            clear HM
            go_wp2
            go_roundw
            case rel => exact ⟨i + 1, L, _, _, M, rfl, by go_num, hi1, HI2, hcnt, HO, H0, H1, H2, HB, hsz⟩
            case measure => simp [intOf]; omega
      · have HE : Hid (M = reachL g s v) := Lib.hid (BfsInv.end_ (by have h := HI.out; rwa [List.drop_of_length_le (by omega)] at h))
        have hML : M.length = g.length := HI.out.len
        have h24 : (padM M).length = 24 := padM_length (by omega)
        clear HI HO H0
        go_wp2_with (first | refine load_marks rfl _ rfl _ rfl H2.out h24 ?_ | refine store_marks rfl _ _ rfl _ rfl rfl H1.out (mk24_length _) h24 ?_)
        refine bodyPost_ret (v := .agg (cellsM (padM M))) ?_ rfl ⟨by rw [HE.out], ?_⟩
        · rw [results_cell_row rfl _ _ _ _ _ _ _ rfl H1.out.row Try.undM rfl (sizeMl h24)]
        · rw [HGG.out]; exact below_row HB.out (by omega) _
  · rw [hsv] at hat e0
    have HR : Hid (padM (reachL g s v) = mk24 fun _ => false) := Lib.hid (by rw [reachL_shut hat, padM_none hl24])
    clear hsv hat H0
    go_enter Try.func57, Try.ntmps57
    go_wp2_with (first | refine load_marks rfl _ rfl _ rfl H2.out (mk24_length _) ?_ | refine store_marks rfl _ _ rfl _ rfl rfl H1.out (mk24_length _) (mk24_length _) ?_)
    refine bodyPost_ret (v := .agg (cellsM (mk24 fun _ => false))) ?_ rfl ⟨by rw [HR.out], ?_⟩
    · rw [results_cell_row rfl _ _ _ _ _ _ _ rfl H1.out.row Try.undM rfl (sizeMl (mk24_length _))]
    · rw [HGG.out]; exact below_row HB.out (by omega) _
end Go.Proofs.Ytfgpenekmokdiaa
