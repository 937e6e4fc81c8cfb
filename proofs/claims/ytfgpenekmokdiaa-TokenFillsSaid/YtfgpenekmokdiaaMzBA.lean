/- Joined texts. -/
import Derived.Test.YtfgpenekmokdiaaMzAD
import Derived.Test.YtfgpenekmokdiaaMzAJ
import Derived.Test.YtfgpenekmokdiaaGdSteps
import Derived.Test.YtfgpenekmokdiaaMzAU
import Derived.Test.YtfgpenekmokdiaaMzAC
import Derived.Test.YtfgpenekmokdiaaMzAM
import Derived.BigQuiet
import Derived.Laws.Rows
import Derived.Laws.Tables
import Derived.Test.YtfgpenekmokdiaaMzAR
import Derived.Test.YtfgpenekmokdiaaMzAZ
namespace Go.Proofs.Ytfgpenekmokdiaa
open Go Go.RowKit Fl

set_option maxRecDepth 100000 in
set_option maxHeartbeats 4000000 in
theorem index_c (A : Option Addr) (c : Nat) (r : List Int) (z : Int) (w : World) (hr : Holds w A (r.map Iv)) (hr24 : r.length ≤ 24) :
    Calls Try.prog 61 #[.slice A r.length c, .int .i64 z] w fun e w' => (∃ k : Int, e = .returned (.int .i64 k) ∧ (0 ≤ k ↔ z ∈ r)) ∧ w' = w := by
  have HR := Lib.hid hr
  clear hr
  go_enter Try.func61, Try.ntmps61
  go_wp2
  go_loop [8] (fun i => ∃ j : Nat, i = .int .i64 j ∧ j ≤ r.length ∧ Hid (∀ i (h : i < r.length), i < j → r[i] ≠ z)) (fun i => r.length - (intOf i).toNat)
  case atStart => exact ⟨0, rfl, Nat.zero_le _, Lib.hid (fun i _ h => by omega)⟩
  case round =>
    obtain ⟨j, rfl, hj, HP⟩ := hrel
    by_cases hjt : j < r.length
    · obtain ⟨b, o, rfl, e1⟩ := HR.out.iv hjt
      by_cases he : r[j] = z
      · have HE : Hid (z ∈ r) := Lib.hid (by rw [← he]; exact List.getElem_mem hjt)
        rw [he] at e1
        clear HP he
        go_wp2
        go_ret
        exact ⟨⟨_, rfl, ⟨fun _ => HE.out, fun _ => by omega⟩⟩, rfl⟩
      · have HN : Hid (∀ i (h : i < r.length), i < j + 1 → r[i] ≠ z) := Lib.hid (fun i hi h2 => by
          rcases Nat.lt_succ_iff_lt_or_eq.1 h2 with h3 | rfl
          · exact HP.out i hi h3
          · exact he)
        have h1 : (z == r[j]) = false := by rw [beq_eq_false_iff_ne]; exact fun e => he e.symm
        have h2 : ¬ z = r[j] := fun e => he e.symm
        clear HP
        generalize r[j] = y at *
        go_wp2
        go_round
        case rel => exact ⟨j + 1, by go_num, by omega, HN⟩
        case measure => simp [intOf]; omega
    · have HE : Hid (¬ z ∈ r) := Lib.hid (fun h => by
        obtain ⟨i, hi, e⟩ := List.mem_iff_getElem.1 h
        exact HP.out i hi (by omega) e)
      clear HP
      go_wp2
      go_ret
      exact ⟨⟨_, rfl, ⟨fun h => by omega, fun h => absurd h HE.out⟩⟩, rfl⟩
set_option maxRecDepth 100000 in
set_option maxHeartbeats 4000000 in
theorem contains_c (A : Option Addr) (c : Nat) (r : List Int) (z : Int) (w : World) (hr : Holds w A (r.map Iv)) (hr24 : r.length ≤ 24) :
    Calls Try.prog 60 #[.slice A r.length c, .int .i64 z] w fun e w' => e = .returned (.bool (decide (z ∈ r))) ∧ w' = w := by
  have CI := Lib.hid (index_c A c r z w hr hr24)
  clear hr
  go_enter Try.func60, Try.ntmps60
  go_wp2_with fail
  refine CI.out.mono ?_
  rintro e w1 ⟨⟨k, rfl, hk⟩, rfl⟩
  have HK := Lib.hid hk
  clear hk CI
  go_wp2
  go_ret
  exact ⟨gr_bool (decide_eq_decide.2 HK.out), rfl⟩
end Go.Proofs.Ytfgpenekmokdiaa
namespace Go.Proofs.Ytfgpenekmokdiaa
open Go Go.RowKit Fl

/-- A board of the 24 numbers B in block G. -/
def BdAt (w : World) (G : Nat) (B : List Int) : Prop := ArrD w G 58 (B.map Iv)
def bdC (B : List Int) : Array Value := (B.map Iv).toArray
theorem bdC_one (B : List Int) : (bdC B).all (·.oneCell') = true := by
  refine Array.all_eq_true_iff_forall_mem.2 fun v hv => ?_
  simp only [bdC, List.mem_toArray, List.mem_map] at hv
  obtain ⟨x, _, rfl⟩ := hv
  rfl
theorem Try.undB : Try.prog.underlying 58 = some (.array 24 3) := by kernel_rfl
theorem Try.sizeB : (Try.prog.info? 58).map (·.size) = some 24 := by kernel_rfl
theorem sizeBl {B : List Int} (h : B.length = 24) : (Try.prog.info? 58).map (·.size) = some (bdC B).size := by unfold bdC; rw [List.size_toArray, List.length_map, h]; exact Try.sizeB
theorem BdAt.cell {w : World} {G : Nat} {B : List Int} (h : BdAt w G B) {k : Nat} (hk : k < B.length) : w.cell? ⟨G, k, none⟩ = some (.int .i64 B[k]) ∧ w.frozen? ⟨G, k, none⟩ = false := ArrD.cell h (by simp [hk])
theorem BdAt.set {w : World} {G : Nat} {B : List Int} (h : BdAt w G B) (k : Nat) (x : Int) : BdAt (w.setCell ⟨G, k, none⟩ (.int .i64 x)) G (B.set k x) := by
  have h1 := ArrD.set h k (.int .i64 x)
  unfold BdAt
  rw [List.map_set]
  exact h1
theorem BdAt.row {w : World} {G : Nat} {B B' : List Int} (h : BdAt w G B) : BdAt (w.setRow G (bdC B')) G B' := ArrD.row (l' := B'.map Iv) h
theorem BdAt.lt {w : World} {G : Nat} {B : List Int} (h : BdAt w G B) : G < w.heap.size := ArrD.lt h
theorem BdAt.keep {w w' : World} {G n : Nat} {B : List Int} (h : BdAt w G B) (hb : Below n w w') (hG : G < n) : BdAt w' G B := ArrD.keep h hb hG
theorem BdAt.put {w : World} {G H k : Nat} {B : List Int} {v : Value} (h : BdAt w G B) (hn : G ≠ H) : BdAt (w.setCell ⟨H, k, none⟩ v) G B := ArrD.put h hn
theorem BdAt.grown {w w' : World} {G : Nat} {B : List Int} {row : Option Nat} (h : BdAt w G B) (hg : w.grownBy w' row) (hn : some G ≠ row) : BdAt w' G B := ArrD.grown h hg hn
theorem BdAt.alloc {w : World} {G : Nat} {B : List Int} (h : BdAt w G B) (o : Obj) : BdAt (w.alloc o) G B := ArrD.alloc h o
theorem BdAt.rowOther {w : World} {G H : Nat} {B : List Int} {c : Array Value} (h : BdAt w G B) (hn : G ≠ H) : BdAt (w.setRow H c) G B := ArrD.same h (setRow_other w H G c hn)
/-- The zeros of a new board. -/
theorem board_new (w : World) : BdAt (w.alloc (.cells #[.int .i64 0, .int .i64 0, .int .i64 0, .int .i64 0, .int .i64 0, .int .i64 0, .int .i64 0, .int .i64 0, .int .i64 0, .int .i64 0, .int .i64 0, .int .i64 0, .int .i64 0, .int .i64 0, .int .i64 0, .int .i64 0, .int .i64 0, .int .i64 0, .int .i64 0, .int .i64 0, .int .i64 0, .int .i64 0, .int .i64 0, .int .i64 0] 58)) w.heap.size (List.replicate 24 0) := by
  unfold BdAt ArrD
  rw [heap_alloc_new]
  rfl
theorem board_box (w : World) (B : List Int) : BdAt (w.alloc (.cells (bdC B) 58)) w.heap.size B := by
  unfold BdAt ArrD
  rw [heap_alloc_new]
  rfl
section
variable {ops : Array Oper} {rest : List Oper} {o : Oper} {a : Act} {w : World} {Q : Exit → Act → World → Prop}
/-- The whole board is read. -/
theorem load_board (hgd : o.guard = none) (x : Operand) (ho : o.op = .load 58 x) (g : Nat) (hx : a.eval x = .pointer (some ⟨g, 0, none⟩)) {B : List Int} (hm : BdAt w g B) (hl : B.length = 24)
    (h : wpList Try.prog ops Q rest (a.put o.dst (.agg (bdC B))) w) : wpList Try.prog ops Q (o :: rest) a w :=
  wpList_load_row hgd _ x ho g hx _ _ _ _ hm Try.undB rfl (sizeBl hl) h
/-- .. behind a guard that is met. -/
theorem load_boardG (hw : Region.wanted o (yielded ops a.tmps) = true) (x : Operand) (ho : o.op = .load 58 x) (g : Nat) (hx : a.eval x = .pointer (some ⟨g, 0, none⟩)) {B : List Int} (hm : BdAt w g B) (hl : B.length = 24)
    (h : wpList Try.prog ops Q rest (a.put o.dst (.agg (bdC B))) w) : wpList Try.prog ops Q (o :: rest) a w := by
  unfold wpList
  rw [if_pos hw]
  exact .inl (wp_load_row _ x ho g hx _ _ _ _ hm Try.undB rfl (sizeBl hl) h)
/-- The whole board is written. -/
theorem store_board (hgd : o.guard = none) (x y : Operand) (ho : o.op = .store 58 x y) (g : Nat) (hx : a.eval x = .pointer (some ⟨g, 0, none⟩)) {B B' : List Int} (hy : a.eval y = .agg (bdC B')) (hm : BdAt w g B) (hl : B.length = 24) (hl' : B'.length = 24)
    (h : wpList Try.prog ops Q rest (a.put o.dst undef) (w.setRow g (bdC B'))) : wpList Try.prog ops Q (o :: rest) a w :=
  wpList_store_row hgd _ x y ho g _ hx hy _ _ hm (sizeBl hl') (by unfold bdC; rw [List.size_toArray, List.size_toArray, List.length_map, List.length_map, hl, hl']) (bdC_one _) h
end
/-- A board as it is filled. -/
def fillB (k : Nat) : List Int := List.replicate k (-1) ++ List.replicate (24 - k) 0
theorem fillB_length {k : Nat} (h : k ≤ 24) : (fillB k).length = 24 := by simp [fillB]; omega
theorem fillB_set : ∀ k, k < 24 → (fillB k).set k (-1) = fillB (k + 1) := by decide
theorem fillB_end : fillB 24 = bdL [] := by decide
set_option maxRecDepth 100000 in
set_option maxHeartbeats 4000000 in
theorem emptyBoard_c (w : World) : Calls Try.prog 52 #[] w fun e w' => e = .returned (.agg (bdC (bdL []))) ∧ Below w.heap.size w w' := by
  have HM1 := Lib.hid ((board_new w).alloc (.cells #[.int .i64 0, .int .i64 0, .int .i64 0, .int .i64 0, .int .i64 0, .int .i64 0, .int .i64 0, .int .i64 0, .int .i64 0, .int .i64 0, .int .i64 0, .int .i64 0, .int .i64 0, .int .i64 0, .int .i64 0, .int .i64 0, .int .i64 0, .int .i64 0, .int .i64 0, .int .i64 0, .int .i64 0, .int .i64 0, .int .i64 0, .int .i64 0] 58))
  have HM2 := Lib.hid (board_new (w.alloc (.cells #[.int .i64 0, .int .i64 0, .int .i64 0, .int .i64 0, .int .i64 0, .int .i64 0, .int .i64 0, .int .i64 0, .int .i64 0, .int .i64 0, .int .i64 0, .int .i64 0, .int .i64 0, .int .i64 0, .int .i64 0, .int .i64 0, .int .i64 0, .int .i64 0, .int .i64 0, .int .i64 0, .int .i64 0, .int .i64 0, .int .i64 0, .int .i64 0] 58)))
  rw [show (w.alloc (.cells #[.int .i64 0, .int .i64 0, .int .i64 0, .int .i64 0, .int .i64 0, .int .i64 0, .int .i64 0, .int .i64 0, .int .i64 0, .int .i64 0, .int .i64 0, .int .i64 0, .int .i64 0, .int .i64 0, .int .i64 0, .int .i64 0, .int .i64 0, .int .i64 0, .int .i64 0, .int .i64 0, .int .i64 0, .int .i64 0, .int .i64 0, .int .i64 0] 58)).heap.size = w.heap.size + 1 from by simp] at HM2
  have HB2 := Lib.hid (((Below.refl w.heap.size w).alloc (Nat.le_refl _) (.cells #[.int .i64 0, .int .i64 0, .int .i64 0, .int .i64 0, .int .i64 0, .int .i64 0, .int .i64 0, .int .i64 0, .int .i64 0, .int .i64 0, .int .i64 0, .int .i64 0, .int .i64 0, .int .i64 0, .int .i64 0, .int .i64 0, .int .i64 0, .int .i64 0, .int .i64 0, .int .i64 0, .int .i64 0, .int .i64 0, .int .i64 0, .int .i64 0] 58)).alloc (by simp) (.cells #[.int .i64 0, .int .i64 0, .int .i64 0, .int .i64 0, .int .i64 0, .int .i64 0, .int .i64 0, .int .i64 0, .int .i64 0, .int .i64 0, .int .i64 0, .int .i64 0, .int .i64 0, .int .i64 0, .int .i64 0, .int .i64 0, .int .i64 0, .int .i64 0, .int .i64 0, .int .i64 0, .int .i64 0, .int .i64 0, .int .i64 0, .int .i64 0] 58))
  go_enter Try.func52, Try.ntmps52
  go_wp2
  generalize (w.alloc (.cells #[.int .i64 0, .int .i64 0, .int .i64 0, .int .i64 0, .int .i64 0, .int .i64 0, .int .i64 0, .int .i64 0, .int .i64 0, .int .i64 0, .int .i64 0, .int .i64 0, .int .i64 0, .int .i64 0, .int .i64 0, .int .i64 0, .int .i64 0, .int .i64 0, .int .i64 0, .int .i64 0, .int .i64 0, .int .i64 0, .int .i64 0, .int .i64 0] 58)).alloc (.cells #[.int .i64 0, .int .i64 0, .int .i64 0, .int .i64 0, .int .i64 0, .int .i64 0, .int .i64 0, .int .i64 0, .int .i64 0, .int .i64 0, .int .i64 0, .int .i64 0, .int .i64 0, .int .i64 0, .int .i64 0, .int .i64 0, .int .i64 0, .int .i64 0, .int .i64 0, .int .i64 0, .int .i64 0, .int .i64 0, .int .i64 0, .int .i64 0] 58) = w2 at *
  obtain ⟨G, hG⟩ : ∃ G, G = w.heap.size := ⟨_, rfl⟩
  rw [← hG] at HM1 HM2 HB2 ⊢
  have HGG := Lib.hid hG
  clear hG
  have HM3 : Hid (BdAt w2 (G + 1) (fillB 0)) := Lib.hid HM2.out
  clear HM2
  go_loopw [3] (fun i wr => ∃ (v : Nat), i = .int .i64 v ∧ v ≤ 24 ∧ Hid (BdAt wr (G + 1) (fillB v)) ∧ Hid (BdAt wr G (List.replicate 24 0)) ∧ Hid (Below G w wr)) (fun i _ => 24 - (intOf i).toNat)
  case atStart => exact ⟨0, rfl, Nat.zero_le _, HM3, HM1, HB2⟩
  case round =>
    clear HM3 HM1 HB2
    obtain ⟨v, rfl, hv, HM, HM1, HB⟩ := hrel
    by_cases hvt : v < 24
    · obtain ⟨cu, c1, f1⟩ : ∃ cu, wr.cell? ⟨G + 1, v, none⟩ = some cu ∧ wr.frozen? ⟨G + 1, v, none⟩ = false := ⟨_, HM.out.cell (by rw [fillB_length hv]; omega)⟩
      have HM2 : Hid (BdAt (wr.setCell ⟨G + 1, v, none⟩ (.int .i64 (-1))) (G + 1) (fillB (v + 1))) := Lib.hid (by rw [← fillB_set v hvt]; exact HM.out.set v _)
      have HM12 := Lib.hid (HM1.out.put (H := G + 1) (k := v) (v := .int .i64 (-1)) (by omega))
      have HB2 := Lib.hid (below_put (i := v) (v := .int .i64 (-1)) HB.out (Nat.le_succ G))
      clear HM HM1 HB
      go_wp2
      go_roundw
      case rel => exact ⟨v + 1, by go_num, by omega, HM2, HM12, HB2⟩
      case measure => simp [intOf]; omega
    · obtain rfl : v = 24 := by omega
      have HMo : Hid (BdAt wr (G + 1) (bdL [])) := Lib.hid (by rw [← fillB_end]; exact HM.out)
      clear HM
      go_wp2_with (first | refine load_board rfl _ rfl _ rfl HMo.out (bdL_length _) ?_ | refine store_board rfl _ _ rfl _ rfl rfl HM1.out (by simp) (bdL_length _) ?_)
      refine bodyPost_ret (v := .agg (bdC (bdL []))) ?_ rfl ⟨rfl, ?_⟩
      · have hrw : ((wr.setRow G (bdC (bdL [])))).heap[G]? = some (.cells (bdC (bdL [])) 58 (0, 0)) := HM1.out.row (B' := bdL [])
        rw [results_cell_row rfl _ _ _ _ _ _ _ rfl hrw Try.undB rfl (sizeBl (bdL_length _))]
      · rw [← HGG.out]; exact below_rowZ HB.out (Nat.le_refl _) _
set_option maxHeartbeats 1000000 in
theorem isVertex_c (A : Option Addr) (n c : Nat) (v : Int) (w : World) : Calls Try.prog 50 #[.slice A n c, .int .i64 v] w fun e w' => e = .returned (.bool (decide (0 ≤ v ∧ v < n))) ∧ w' = w := by
  by_cases h0 : 0 ≤ v
  · by_cases h1 : v < n
    · have HE : Hid (decide (0 ≤ v ∧ v < n) = true) := Lib.hid (decide_eq_true ⟨h0, h1⟩)
      go_enter Try.func50, Try.ntmps50
      go_wp2
      go_ret
      exact ⟨gr_bool HE.out.symm, rfl⟩
    · go_enter Try.func50, Try.ntmps50
      go_wp2
      go_ret
      exact ⟨gr_bool (by simp; omega), rfl⟩
  · go_enter Try.func50, Try.ntmps50
    go_wp2
    go_ret
    exact ⟨gr_bool (by simp; omega), rfl⟩
set_option maxHeartbeats 1000000 in
/-- The token on a vertex that is wanted. -/
theorem inTheWay_c (B : List Int) (v x : Int) (w : World) (hB : B.length = 24) (hv : (v = -1 ∧ x = -1) ∨ ∃ k : Nat, v = (k : Int) ∧ B[k]? = some x) : Calls Try.prog 36 #[.agg (bdC B), .int .i64 v] w fun e w' => e = .returned (.int .i64 x) ∧ Below w.heap.size w w' := by
  have HN := Lib.hid (board_box w B)
  have HB := Lib.hid ((Below.refl _ w).alloc (Nat.le_refl _) (.cells (bdC B) 58))
  rcases hv with ⟨rfl, rfl⟩ | ⟨k, rfl, hk⟩
  · go_enter Try.func36, Try.ntmps36
    go_wp2
    go_ret
    exact ⟨rfl, HB.out⟩
  · obtain ⟨hk1, hk2⟩ := List.getElem?_eq_some_iff.1 hk
    have hk24 : k < 24 := by omega
    have e1 : (w.alloc (.cells (bdC B) 58)).cell? ⟨w.heap.size, k, none⟩ = some (.int .i64 x) := by rw [(HN.out.cell hk1).1, hk2]
    have hne : ((k : Int) == -1) = false := by rw [beq_eq_false_iff_ne]; omega
    clear hk hk1 hk2 HN hB
    go_enter Try.func36, Try.ntmps36
    go_wp2
    go_ret
    exact ⟨rfl, HB.out⟩
end Go.Proofs.Ytfgpenekmokdiaa
namespace Go.Proofs.Ytfgpenekmokdiaa
open Go Go.RowKit Fl

def moveCells : List MoveD → List Value
  | [] => []
  | m :: l => Iv m.tok :: Iv m.frm :: Iv m.dst :: moveCells l
theorem moveCells_length : ∀ (l : List MoveD), (moveCells l).length = l.length * 3
  | [] => rfl
  | m :: l => by simp only [moveCells, List.length_cons]; rw [moveCells_length l]; omega
theorem moveCells_append : ∀ (a b : List MoveD), moveCells (a ++ b) = moveCells a ++ moveCells b
  | [], _ => rfl
  | x :: a, b => by simp only [List.cons_append, moveCells]; rw [moveCells_append a b]
theorem moveCells_take : ∀ (l : List MoveD) (q : Nat), moveCells (l.take q) = (moveCells l).take (q * 3)
  | _, 0 => by simp [moveCells]
  | [], q + 1 => by simp [moveCells]
  | m :: l, q + 1 => by
    rw [show (q + 1) * 3 = q * 3 + 1 + 1 + 1 by omega]
    simp only [List.take_succ_cons, moveCells]
    rw [moveCells_take l q]
/-- Replay of legal moves. -/
def DevReplayT : Prop := ∀ (A A1 : Option Addr) (c c1 : Nat) (g : GraphD) (ms : List MoveD) (ts : List Int) (w : World), RowsAt w A g → validG g = true → Holds w A1 (moveCells ms) → ms.length ≤ 1200 → playL g [] ms = some ts →
  Calls Try.prog 27 #[.slice A g.length c, .slice A1 ms.length c1] w fun e w' => (∃ u, e = .returned (.tuple #[u, .int .i64 0]) ∧ w'.ownsRow w.heap.size 3 1 u ts.length (ts.map Iv)) ∧ Below w.heap.size w w'
/-- Fill of a valid graph at a vertex. -/
def DevFillT : Prop := ∀ (A : Option Addr) (c e : Nat) (g : GraphD) (w : World), RowsAt w A g → validG g = true → e < g.length →
  (nearP g e < 0 → Calls Try.prog 26 #[.slice A g.length c, .int .i64 e] w fun x w' => x = .returned (.tuple #[.slice none 0 0, .int .i64 25]) ∧ Below w.heap.size w w') ∧
  (0 ≤ nearP g e → Calls Try.prog 26 #[.slice A g.length c, .int .i64 e] w fun x w' => (∃ u, x = .returned (.tuple #[u, .int .i64 0]) ∧ w'.ownsRow w.heap.size 42 3 u (fillM g e).length (moveCells (fillM g e))) ∧ Below w.heap.size w w')
theorem tokMoves_len (way w : List Int) (p k : Nat) : (tokMoves way w p k).length = 1 + (way.length - 1) + (w.length - 1 - k) := by
  unfold tokMoves
  rw [List.length_cons, List.length_append, List.length_map, List.length_map, List.length_range, List.length_range]
  omega
theorem fillK_len (way w : List Int) (p : Nat) (h1 : way.length ≤ 25) (h2 : w.length ≤ 24) : ∀ k, (fillK way w p k).length ≤ 48 * k
  | 0 => by simp [fillK]
  | k + 1 => by
    unfold fillK
    rw [List.length_append, tokMoves_len]
    have := fillK_len way w p h1 h2 k
    omega
theorem fillM_len {g : GraphD} {e : Nat} (hg : validG g = true) (h0 : 0 ≤ nearP g e) (h1 : nearP g e < (girF g (List.replicate g.length false)).length) : (fillM g e).length ≤ 1200 := by
  unfold fillM
  have hf := gir_few (sh := List.replicate g.length false) hg
  obtain ⟨p, hp⟩ := Int.eq_ofNat_of_zero_le h0
  have hpl : p < (girF g (List.replicate g.length false)).length := by omega
  have hw : girF g (List.replicate g.length false) ≠ [] := fun h => by rw [h] at hpl; simp at hpl
  have hx := (gir_closed hg hw).walk.ok _ (List.getElem_mem hpl)
  have hgl : (atI (girF g (List.replicate g.length false)) (nearP g e)).toNat < g.length := by
    rw [hp, Fl.atI_get hpl]
    have := hx.1; have := hx.2.1; omega
  have hs := firstF_short (s := List.replicate g.length false) (a := e) hg hgl
  have := fillK_len (firstF g (List.replicate g.length false) e (atI (girF g (List.replicate g.length false)) (nearP g e)).toNat) (girF g (List.replicate g.length false)) (nearP g e).toNat hs hf (girF g (List.replicate g.length false)).length
  omega
end Go.Proofs.Ytfgpenekmokdiaa
namespace Go.Proofs.Ytfgpenekmokdiaa
open Go Go.RowKit Fl

theorem Try.infoMove : (Try.prog.info? 42).map (fun i => (i.zero, i.size, i.bytes)) = some (some (.agg #[.int .i64 0, .int .i64 0, .int .i64 0]), 3, 24) := by kernel_rfl
/-- What Fill returns. -/
def FillRes (g : GraphD) (v : Int) (B : Nat) (e : Ending) (w' : World) : Prop :=
  (validG g = false ∧ e = .returned (.tuple #[.slice none 0 0, .int .i64 20])) ∨ (validG g = true ∧ ¬ (0 ≤ v ∧ v < g.length) ∧ e = .returned (.tuple #[.slice none 0 0, .int .i64 19])) ∨
  (validG g = true ∧ (0 ≤ v ∧ v < g.length) ∧ nearP g v.toNat < 0 ∧ e = .returned (.tuple #[.slice none 0 0, .int .i64 25])) ∨
  (validG g = true ∧ (0 ≤ v ∧ v < g.length) ∧ 0 ≤ nearP g v.toNat ∧ ∃ u, e = .returned (.tuple #[u, .int .i64 0]) ∧ w'.ownsRow B 42 3 u (fillM g v.toNat).length (moveCells (fillM g v.toNat)))
theorem fil_bad {g : GraphD} {v : Int} {B : Nat} {w' : World} (h : validG g = false) : FillRes g v B (.returned (.tuple #[.slice none 0 0, .int .i64 20])) w' := .inl ⟨h, rfl⟩
theorem fil_range {g : GraphD} {v : Int} {B : Nat} {w' : World} (h : validG g = true) (hv : ¬ (0 ≤ v ∧ v < g.length)) : FillRes g v B (.returned (.tuple #[.slice none 0 0, .int .i64 19])) w' := .inr (.inl ⟨h, hv, rfl⟩)
theorem fil_none {g : GraphD} {n : Nat} {B : Nat} {w' : World} (h : validG g = true) (hv : n < g.length) (hp : nearP g n < 0) : FillRes g (n : Int) B (.returned (.tuple #[.slice none 0 0, .int .i64 25])) w' := .inr (.inr (.inl ⟨h, by omega, by rw [Int.toNat_natCast]; exact hp, rfl⟩))
theorem fil_some {g : GraphD} {n : Nat} {B : Nat} {w' : World} {u : Value} {M : List MoveD} (h : validG g = true) (hv : n < g.length) (hp : 0 ≤ nearP g n) (hM : M = fillM g n) (ho : w'.ownsRow B 42 3 u M.length (moveCells M)) : FillRes g (n : Int) B (.returned (.tuple #[u, .int .i64 0])) w' := .inr (.inr (.inr ⟨h, by omega, by rw [Int.toNat_natCast]; exact hp, u, rfl, by rw [Int.toNat_natCast, ← hM]; exact ho⟩))
/-- What the walk of Fill rests on where there is a nearest vertex. -/
structure FillWay (g : GraphD) (e : Nat) (w P : List Int) (p : Nat) : Prop where
  pl : p < w.length
  two : 2 ≤ w.length
  few : w.length ≤ 24
  ppos : 0 < P.length
  pfew : P.length ≤ 25
  last : P[P.length - 1]? = some (atI w p)
  nodup : w.Nodup
  moves : legsK (wayL P w p) w.length = fillM g e
theorem fill_way {g : GraphD} {e : Nat} (hg : validG g = true) (he : e < g.length) :
    (nearP g e < 0 ∧ bstK g (opensT g.length) e (srtL (girF g (opensT g.length))) (girF g (opensT g.length)).length = []) ∨
    (0 ≤ nearP g e ∧ ∃ p : Nat, FillWay g e (girF g (opensT g.length)) (bstK g (opensT g.length) e (srtL (girF g (opensT g.length))) (girF g (opensT g.length)).length) p) := by
  have hrng : ∀ x ∈ girF g (opensT g.length), 0 ≤ x ∧ x < g.length := fun x hx => by
    have hw : girF g (opensT g.length) ≠ [] := fun h => by rw [h] at hx; cases hx
    have := (gir_closed hg hw).walk.ok x hx
    exact ⟨this.1, this.2.1⟩
  have hb := best_near (sh := opensT g.length) hg he hrng (srtL_mem (girF g (opensT g.length))) (srtL_sorted _)
  rw [srtL_length] at hb
  have hnp : (nearK g (opensT g.length) (girF g (opensT g.length)) e (girF g (opensT g.length)).length).2 = nearP g e := rfl
  rw [hnp] at hb
  by_cases h : nearP g e < 0
  · exact .inl ⟨h, hb.1 h⟩
  · right
    refine ⟨by omega, ?_⟩
    obtain ⟨p, hp⟩ := Int.eq_ofNat_of_zero_le (show 0 ≤ nearP g e by omega)
    refine ⟨p, ?_⟩
    obtain ⟨h1, h2, h3⟩ := hb.2 p hp
    have hw : girF g (opensT g.length) ≠ [] := fun h => by rw [h] at h1; simp at h1
    have hgo := hrng _ (List.getElem_mem h1)
    have hat : atI (girF g (opensT g.length)) (p : Int) = (girF g (opensT g.length))[p] := Fl.atI_get h1
    have hfm : fillM g e = fillK (firstF g (opensT g.length) e (atI (girF g (opensT g.length)) (p : Int)).toNat) (girF g (opensT g.length)) p (girF g (opensT g.length)).length := by
      unfold fillM
      rw [hp, Int.toNat_natCast]; rfl
    rw [h2]
    unfold farI at h3
    have hgt := gir_two hg hw
    have hgf := gir_few (sh := opensT g.length) hg
    have hgn := gir_nodup (s := opensT g.length) hg
    rw [← hat] at hgo
    clear hat hb hnp h hrng h2 hp
    generalize girF g (opensT g.length) = W at *
    obtain ⟨x, hx⟩ := Int.eq_ofNat_of_zero_le hgo.1
    rw [hx, Int.toNat_natCast] at h3 hfm ⊢
    have hpath : PathOk g (opensT g.length) e x (firstF g (opensT g.length) e x) := by
      rcases first_cases (s := opensT g.length) hg he (show x < g.length by omega) with ⟨_, h4⟩ | h4
      · omega
      · exact h4
    have hlast := hpath.last
    have hlw : atI (firstF g (opensT g.length) e x) (((firstF g (opensT g.length) e x).length - 1 : Nat) : Int) = wv W p := by rw [path_at hlast, wv, Nat.mod_eq_of_lt h1, hx]
    exact ⟨h1, hgt, hgf, hpath.pos, firstF_short hg (by omega), by rw [hx]; exact hlast, hgn, (legs_fill h1 hpath.pos hlw _ (Nat.le_refl _)).trans hfm.symm⟩
set_option maxRecDepth 100000 in
set_option maxHeartbeats 8000000 in
theorem devFill_c (A : Option Addr) (c : Nat) (v : Int) (g : GraphD) (w : World) (hh : RowsAt w A g) (hz : Sized g) :
    Calls Try.prog 26 #[.slice A g.length c, .int .i64 v] w fun x w' => Below w.heap.size w w' ∧ FillRes g v w.heap.size x w' := by
  have CV := Lib.hid (devValid_c A c g w hh hz.1 hz.2)
  have HB0 := Lib.hid (Below.refl w.heap.size w)
  rcases hv : validG g with _ | _
  · have HV := Lib.hid hv
    rw [hv] at CV
    clear hh hz hv
    go_enter Try.func26, Try.ntmps26
    go_wp2_with fail
    refine CV.out.mono ?_
    rintro x w1 ⟨rfl, rfl⟩
    clear CV
    go_wp2
    go_ret2
    exact ⟨HB0.out, fil_bad HV.out⟩
  · have HV := Lib.hid hv
    rw [hv] at CV
    have CI := Lib.hid (isVertex_c A g.length c v w)
    by_cases hin : 0 ≤ v ∧ v < g.length
    · rw [decide_eq_true hin] at CI
      obtain ⟨e, rfl⟩ := Int.eq_ofNat_of_zero_le hin.1
      have he : e < g.length := by omega
      have CW := Lib.hid (firstWalkT_c A c g w hh hv)
      have HH := Lib.hid hh
      have HFW := Lib.hid (fill_way hv he)
      have HF := Lib.hid (gir_few (sh := opensT g.length) hv)
      have HRg : Hid (∀ x ∈ girF g (opensT g.length), 0 ≤ x ∧ x < g.length) := Lib.hid (fun x hx => by
        have hw : girF g (opensT g.length) ≠ [] := fun h => by rw [h] at hx; cases hx
        have := (gir_closed hv hw).walk.ok x hx
        exact ⟨this.1, this.2.1⟩)
      have CSh := Lib.hid (fun (W : Option Addr) (cw : Nat) (V : World) (h1 : RowsAt V A g) (h2 : Holds V W ((girF g (opensT g.length)).map Iv)) => shortest_c A W c cw e g (girF g (opensT g.length)) V h1 h2 hv he HF.out HRg.out)
      clear hh hz hv hin
      obtain ⟨Pp, hPp⟩ : ∃ Pp, bstK g (opensT g.length) e (srtL (girF g (opensT g.length))) (girF g (opensT g.length)).length = Pp := ⟨_, rfl⟩
      rw [hPp] at HFW CSh
      clear hPp HRg
      obtain ⟨l, hl⟩ : ∃ l, girF g (opensT g.length) = l := ⟨_, rfl⟩
      rw [hl] at CW HFW HF CSh
      clear hl
      go_enter Try.func26, Try.ntmps26
      go_wp2_with fail
      refine CV.out.mono ?_
      rintro x w1 ⟨rfl, rfl⟩
      clear CV
      go_wp2_with fail
      refine CI.out.mono ?_
      rintro x w1 ⟨rfl, rfl⟩
      clear CI
      go_wp2_with fail
      refine CW.out.mono ?_
      rintro x w2 ⟨u2, rfl, hu2, hb2⟩
      obtain ⟨AW, cW, rfl, hcW, hhW⟩ := own_cap hu2
      have HB2 := Lib.hid hb2
      have HW2 := Lib.hid hu2
      have CS := Lib.hid (CSh.out AW cW w2 (HH.out.keep hb2) hhW)
      clear hu2 hb2 hhW CW CSh
      go_wp2_with fail
      refine CS.out.mono ?_
      rintro x w3 ⟨u3, rfl, hu3, hb3⟩
      obtain ⟨AP, cP, rfl, hcP, hhP⟩ := own_cap hu3
      have HB3 := Lib.hid (HB2.out.trans (hb3.mono HB2.out.size))
      have HW3 := Lib.hid (ownsRow_below HW2.out hb3)
      have HP3 := Lib.hid hhP
      clear hu3 hb3 hhP CS HB2 HW2
      rcases HFW.out with ⟨hneg, hnil⟩ | ⟨hpos, p, hfw⟩
      · have HN := Lib.hid hneg
        subst hnil
        clear hneg HFW
        go_wp2
        go_ret2
        exact ⟨HB3.out, fil_none HV.out he HN.out⟩
      · have HN := Lib.hid hpos
        have HFw := Lib.hid hfw
        have hp1 := hfw.pl
        have hp2 := hfw.two
        have hp3 := hfw.few
        have hp4 := hfw.ppos
        have hp5 := hfw.pfew
        have hne : ((Pp.length : Int) == 0) = false := by rw [beq_eq_false_iff_ne]; omega
        obtain ⟨bP, oP, rfl, _⟩ := HP3.out.iv hp4
        obtain ⟨hlt1, hlt2⟩ := List.getElem?_eq_some_iff.1 hfw.last
        obtain ⟨b', o', hA', e1⟩ := HP3.out.iv hlt1
        injection hA' with hA'
        injection hA' with q1 q2
        subst q1 q2
        rw [hlt2, Fl.atI_get hp1] at e1
        have hhW3 : Holds w3 AW (l.map Iv) := by
          obtain ⟨A9, c9, h8, h9⟩ := own_is HW3.out
          injection h8 with h8
          rw [h8]; exact h9
        have CB := Lib.hid (beginWith_c AW cW p l l[p] w3 hhW3 hcW (by omega) hp1 rfl (fun j h hj e => (List.pairwise_iff_getElem.1 hfw.nodup j p h hp1 hj) e))
        clear hpos hfw HFW hlt2 hhW3
        go_wp2_with fail
        refine CB.out.mono ?_
        rintro x w5 ⟨u5, rfl, hu5, hb5⟩
        obtain ⟨q5, c5, rfl, hq5, hc5⟩ := own_at hu5 (by omega)
        have hh5 : Holds w5 (some ⟨q5, 0, none⟩) ((l.drop p ++ l.take p).map Iv) := by
          obtain ⟨A9, c9, h8, h9⟩ := own_is hu5
          injection h8 with h8
          rw [h8]; exact h9
        have HB5 := Lib.hid (HB3.out.trans (hb5.mono HB3.out.size))
        have HP5 := Lib.hid (HP3.out.keep hb5)
        have hk1 : ¬ c5 = 1 := by omega
        have hk2 : ¬ c5 < 1 := by omega
        have hk3 : 1 ≤ c5 := by omega
        have hk4 : 1 ≤ l.length := by omega
        have hd1 := holds_behind hh5 1
        rw [Nat.zero_add] at hd1
        have CC := Lib.hid (concat2_c (w := w5) (W := w5.alloc (.cells #[.slice (some ⟨bP, oP, none⟩) Pp.length cP, .slice (some ⟨q5, 1, none⟩) (l.length - 1) (c5 - 1)] 23)) (heap_alloc_new w5 _) ((Below.refl _ w5).alloc (Nat.le_refl _) _) rfl (by rw [List.length_drop, turn_len l p (by omega)]) HP5.out hd1 (by omega) (by omega))
        rw [show Pp ++ (l.drop p ++ l.take p).drop 1 = wayL Pp l p from rfl] at CC
        have hnW := wayL_length (P := Pp) (w := l) (p := p) hp1
        clear hu5 hb5 CB hh5 hd1 HP3 HB3 e1
        go_wp2_with fail
        refine CC.out.mono ?_
        rintro x w7 ⟨u7, rfl, hu7, hb7⟩
        obtain ⟨q, cap, rfl, hq7, hcap⟩ := own_at hu7 (by omega)
        have HW7 : Hid (∀ j (h : j < (wayL Pp l p).length), w7.cell? ⟨q, j, none⟩ = some (.int .i64 (atI (wayL Pp l p) j)) ∧ q < w7.heap.size) := Lib.hid (fun j h => by
          have h2 := own_get hu7 (i := j) (u := Iv (wayL Pp l p)[j]) (by rw [List.getElem?_map, List.getElem?_eq_getElem h]; rfl)
          rw [Fl.atI_get h]
          exact ⟨h2.1, World.block_lt_of_cell? _ _ h2.1⟩)
        have HB7 := Lib.hid (HB5.out.trans (hb7.mono HB5.out.size))
        have HMv := Lib.hid HFw.out.moves
        obtain ⟨nW, hnw⟩ : ∃ nW, Pp.length + (l.length - 1) = nW := ⟨_, rfl⟩
        rw [hnw] at hnW hcap ⊢
        have hnb : nW ≤ 48 ∧ l.length ≤ nW := by omega
        obtain ⟨WW, hWW⟩ : ∃ WW, wayL Pp l p = WW := ⟨_, rfl⟩
        rw [hWW] at HW7 HMv hnW
        have HnW := Lib.hid hnW
        clear hu7 hb7 CC hWW HFw HB5 HP5 hnW hnw
        have HO0 : Hid (w7.ownsRow w7.heap.size 42 3 (.slice none 0 0) (legsK WW 0).length (moveCells (legsK WW 0))) := Lib.hid (World.ownsRow_nil _ _ _ _)
        go_wp2
        go_loopw [9, 10, 46] (fun wv mv tv wr => ∃ k : Nat, tv = .int .i64 k ∧ k ≤ l.length ∧ wv = .slice (some ⟨q, 0, none⟩) (nW - k) cap ∧ Hid (wr.ownsRow w7.heap.size 42 3 mv (legsK WW k).length (moveCells (legsK WW k))) ∧ Hid (Below w7.heap.size w7 wr)) (fun _ _ tv _ => l.length - (intOf tv).toNat)
        case atStart => exact ⟨0, rfl, Nat.zero_le _, rfl, HO0, Lib.hid (Below.refl _ _)⟩
        case round =>
          clear HO0
          obtain ⟨k, rfl, hk, rfl, HO, HB⟩ := hrel
          by_cases hlt : k < l.length
          · have HSt : Hid (∀ j, stepM k WW j = ⟨k, if j = 0 then -1 else atI WW ((j - 1 : Nat) : Int), atI WW j⟩) := Lib.hid (fun j => rfl)
            have HLs : Hid (∀ j, legM k WW (j + 1) = legM k WW j ++ [stepM k WW j]) := Lib.hid (fun j => legM_succ k WW j)
            have HLl : Hid (∀ j, (legM k WW j).length = j) := Lib.hid (fun j => legM_length k WW j)
            have HL0 : Hid (legM k WW 0 = []) := Lib.hid rfl
            have HK1 : Hid (legsK WW (k + 1) = legsK WW k ++ legM k WW (nW - k)) := Lib.hid (by rw [← HnW.out]; rfl)
            have hkb : (legsK WW k).length ≤ 48 * 24 := Nat.le_trans (legsK_len WW k) (by rw [HnW.out]; exact Nat.mul_le_mul hnb.1 (by omega))
            have hsub : ((nW - k : Nat) : Int) - 1 = ((nW - (k + 1) : Nat) : Int) := by omega
            have hsn : 1 ≤ nW - k := by omega
            have HOi : Hid (wr.ownsRow w7.heap.size 42 3 u10 (legsK WW k ++ legM k WW 0).length (moveCells (legsK WW k ++ legM k WW 0))) := Lib.hid (by rw [HL0.out, List.append_nil]; exact HO.out)
            generalize legsK WW k = LK at *
            clear HO
            go_wp2
            go_loopw [10, 12, 51] (fun mv fv jv wv => ∃ j : Nat, jv = .int .i64 j ∧ j ≤ nW - k ∧ fv = .int .i64 (if j = 0 then -1 else atI WW ((j - 1 : Nat) : Int)) ∧ Hid (wv.ownsRow w7.heap.size 42 3 mv (LK ++ legM k WW j).length (moveCells (LK ++ legM k WW j))) ∧ Hid (Below w7.heap.size w7 wv)) (fun _ _ jv _ => nW - k - (intOf jv).toNat)
            case atStart => exact ⟨0, rfl, Nat.zero_le _, rfl, HOi, HB⟩
            case round =>
              clear HOi HB
              obtain ⟨j, rfl, hj, rfl, HO, HB⟩ := hrel
              by_cases hjl : j < nW - k
              · obtain ⟨e1, hqw⟩ := HW7.out j (by rw [HnW.out]; omega)
                have e2 : wr.cell? ⟨q, j, none⟩ = some (.int .i64 (atI WW j)) := (HB.out.cell (p := ⟨q, j, none⟩) hqw).trans e1
                have HNx : Hid (moveCells (LK ++ legM k WW (j + 1)) = moveCells (LK ++ legM k WW j) ++ [.int .i64 (k : Int), .int .i64 (if j = 0 then -1 else atI WW ((j - 1 : Nat) : Int)), .int .i64 (atI WW j)]) := Lib.hid (by rw [HLs.out, ← List.append_assoc, moveCells_append, HSt.out]; rfl)
                have HNl : Hid ((LK ++ legM k WW (j + 1)).length = (LK ++ legM k WW j).length + 1) := Lib.hid (by rw [HLs.out, ← List.append_assoc, List.length_append]; rfl)
                have hfx : (if j + 1 = 0 then (-1 : Int) else atI WW ((j + 1 - 1 : Nat) : Int)) = atI WW j := by rw [if_neg (by omega), Nat.add_sub_cancel]
                have HFx := Lib.hid hfx
                have hln : (LK ++ legM k WW j).length ≤ 2000 := by rw [List.length_append, HLl.out]; omega
                have hob := HO.out.lt
                have hszv := HB.out.size
                clear e1 hfx
                obtain ⟨iM, hiM, hzM, hsM, hbM⟩ := info_parts Try.infoMove
                obtain ⟨L2, hL2⟩ : ∃ L2, LK ++ legM k WW (j + 1) = L2 := ⟨_, rfl⟩
                rw [hL2] at HNx HNl
                have HL2 := Lib.hid hL2
                clear hL2
                generalize LK ++ legM k WW j = L1 at *
                generalize (if j = 0 then (-1 : Int) else atI WW ((j - 1 : Nat) : Int)) = fv at *
                generalize atI WW (j : Int) = tv at *
                go_wp2_with (at_builtin; refine wpList_append_own _ rfl _ _ 37 rfl w7.heap.size 42 iM (.agg #[.int .i64 0, .int .i64 0, .int .i64 0]) 3 24 Try.underlying37 hiM hzM hsM hbM rfl (by decide) _ _ _ rfl (HO.out.alloc _) ⟨wr.heap.size, 0, none⟩ 1 1 [.int .i64 (k : Int), .int .i64 fv, .int .i64 tv] rfl rfl (World.news_of_block (heap_alloc_new _ _)) (by simp [Value.oneCell']) (by unfold maxLen; omega) (by omega) (by simp; omega) ?_)
                intro v8 w8 own8 hg8 _
                have HO8 : Hid (w8.ownsRow w7.heap.size 42 3 v8 L2.length (moveCells L2)) := Lib.hid (by rw [HNx.out, HNl.out]; exact own8)
                have HB8 := Lib.hid ((HB.out.alloc hszv (.cells #[.int .i64 (k : Int), .int .i64 fv, .int .i64 tv] 42)).grown hg8 (by simp; omega) (fun k hk => (hob k hk).1))
                clear own8 hg8 HO HB hob
                go_wp2
                go_roundw
                case rel => exact ⟨j + 1, by go_num, by omega, by rw [HFx.out], by rw [HL2.out]; exact HO8, HB8⟩
                case measure => simp [intOf]; omega
              · obtain rfl : j = nW - k := by omega
                have HO8 : Hid (wr.ownsRow w7.heap.size 42 3 u10 (legsK WW (k + 1)).length (moveCells (legsK WW (k + 1)))) := Lib.hid (by rw [HK1.out]; exact HO.out)
                clear HO
                go_wp2
                go_roundw
                case rel => exact ⟨k + 1, by go_num, by omega, by congr 1, HO8, HB⟩
                case measure => simp [intOf]; omega
          · obtain rfl : k = l.length := by omega
            have HOw := Lib.hid (ownsRow_base HO.out HB7.out.size)
            have HBw := Lib.hid (HB7.out.trans (HB.out.mono HB7.out.size))
            clear HO
            go_wp2
            go_ret2
            exact ⟨HBw.out, fil_some HV.out he HN.out HMv.out HOw.out⟩
    · rw [decide_eq_false hin] at CI
      clear hh hz hv
      go_enter Try.func26, Try.ntmps26
      go_wp2_with fail
      refine CV.out.mono ?_
      rintro x w1 ⟨rfl, rfl⟩
      clear CV
      go_wp2_with fail
      refine CI.out.mono ?_
      rintro x w1 ⟨rfl, rfl⟩
      clear CI
      go_wp2
      go_ret2
      exact ⟨HB0.out, fil_range HV.out hin⟩
end Go.Proofs.Ytfgpenekmokdiaa
