/- Joined texts. -/
import Derived.Test.YtgjnhefmheefbaaDoorMjA
import Derived.Test.YtgjnhefmheefbaaDoorLitTab
import Derived.Test.YtgjnhefmheefbaaDoorScope
import Derived.Test.YtgjnhefmheefbaaDoorFdSmall
import Derived.Test.YtgjnhefmheefbaaDoorShelf
import Derived.Test.YtgjnhefmheefbaaDoorFdName
namespace Go.Proofs.YtgjnhefmheefbaaDoor
open Go.RowKit Fl
attribute [local go_sem] bget

/-- The shape of a word as a value; the zero shape for 0. -/
def shapeV (n : Nat) : Value := if n = 0 then .agg #[.int .i64 0, .string ByteArray.empty, .int .i64 0, .int .i64 0, .bool false]
  else .agg #[.int .i64 n, S (wordText n), .int .i64 (shapeN n), .int .i64 (shapeX n), .bool (decide (n = 2))]
/-- The cells of the table. -/
def shapeCells : Array Value := #[.int .i64 1, S wBlock, .int .i64 1, .int .i64 2, .bool false, .int .i64 2, S wLane, .int .i64 2, .int .i64 0, .bool true,
  .int .i64 3, S wStation, .int .i64 3, .int .i64 1, .bool false, .int .i64 4, S wDepot, .int .i64 3, .int .i64 1, .bool false,
  .int .i64 5, S wRobot, .int .i64 1, .int .i64 1, .bool false, .int .i64 6, S wConfig, .int .i64 0, .int .i64 4, .bool false]
/-- The table stands in the world. -/
def Shapes (w : World) : Prop := ∃ ty fr, w.heap[0]? = some (.cells shapeCells ty fr)
theorem Shapes.keep {w w' : World} (h : Shapes w) (hb : Below w.heap.size w w') : Shapes w' := by
  obtain ⟨ty, fr, h⟩ := h
  exact ⟨ty, fr, (hb.block _ (block_lt h)).trans h⟩
theorem Tryd.infoShapes : (Tryd.prog.info? 90).map (·.size) = some 30 := by kernel_rfl

/-- The words in their order. -/
def wordsL : List (List UInt8) := [wBlock, wLane, wStation, wDepot, wRobot, wConfig]
theorem wordOf_none {l : List UInt8} (h : ∀ j, j < 6 → wordsL[j]? ≠ some l) : wordOf l = 0 := by
  have h0 := h 0 (by omega)
  have h1 := h 1 (by omega)
  have h2 := h 2 (by omega)
  have h3 := h 3 (by omega)
  have h4 := h 4 (by omega)
  have h5 := h 5 (by omega)
  simp [wordsL] at h0 h1 h2 h3 h4 h5
  unfold wordOf
  simp [Ne.symm h0, Ne.symm h1, Ne.symm h2, Ne.symm h3, Ne.symm h4, Ne.symm h5]
theorem snoc_none {l : List UInt8} {k : Nat} (h : ∀ j, j < k → wordsL[j]? ≠ some l) (h2 : wordsL[k]? ≠ some l) : ∀ j, j < k + 1 → wordsL[j]? ≠ some l := fun j hj => by
  rcases Nat.lt_succ_iff_lt_or_eq.1 hj with h' | rfl
  · exact h j h'
  · exact h2
/-- Row g holds these cells, and is not frozen. -/
theorem row_cells {w : World} {g : Nat} {cs : Array Value} {t : TypeId} (h : w.heap[g]? = some (.cells cs t (0, 0))) (j : Nat) : w.cell? ⟨g, j, none⟩ = cs[j]? := cell_of_row w g j cs t (0, 0) h

abbrev zeroShape : Array Value := #[.int .i64 0, .string ⟨#[]⟩, .int .i64 0, .int .i64 0, .bool false]
set_option maxRecDepth 100000 in
set_option maxHeartbeats 4000000 in
theorem shapeOfText_c (l : List UInt8) (w : World) (hs : l.length ≤ maxLen) (hg : Shapes w) :
    Calls Tryd.prog 41 #[.string ⟨l.toArray⟩] w fun e w' => e = .returned (.tuple #[shapeV (wordOf l), .bool (decide (wordOf l ≠ 0))]) ∧ Below w.heap.size w w' := by
  unfold maxLen at hs
  obtain ⟨ty, fr, hg⟩ := hg
  have hg1 : (w.alloc (.cells zeroShape 68)).heap[0]? = some (.cells shapeCells ty fr) := (heap_alloc_old w _ (block_lt hg)).trans hg
  have hb : Below w.heap.size w (w.alloc (.cells zeroShape 68)) := (Below.refl _ _).alloc (Nat.le_refl _) _
  have hP : (w.alloc (.cells zeroShape 68)).heap[w.heap.size]? = some (.cells zeroShape 68 (0, 0)) := heap_alloc_new w _
  clear hg
  have i0 : ∀ w, (Instr.index 90 (.agg shapeCells) (.int .i64 0)).run Tryd.prog w = .ok (.agg #[.int .i64 1, S wBlock, .int .i64 1, .int .i64 2, .bool false]) w := fun _ => by kernel_rfl
  have i1 : ∀ w, (Instr.index 90 (.agg shapeCells) (.int .i64 1)).run Tryd.prog w = .ok (.agg #[.int .i64 2, S wLane, .int .i64 2, .int .i64 0, .bool true]) w := fun _ => by kernel_rfl
  have i2 : ∀ w, (Instr.index 90 (.agg shapeCells) (.int .i64 2)).run Tryd.prog w = .ok (.agg #[.int .i64 3, S wStation, .int .i64 3, .int .i64 1, .bool false]) w := fun _ => by kernel_rfl
  have i3 : ∀ w, (Instr.index 90 (.agg shapeCells) (.int .i64 3)).run Tryd.prog w = .ok (.agg #[.int .i64 4, S wDepot, .int .i64 3, .int .i64 1, .bool false]) w := fun _ => by kernel_rfl
  have i4 : ∀ w, (Instr.index 90 (.agg shapeCells) (.int .i64 4)).run Tryd.prog w = .ok (.agg #[.int .i64 5, S wRobot, .int .i64 1, .int .i64 1, .bool false]) w := fun _ => by kernel_rfl
  have i5 : ∀ w, (Instr.index 90 (.agg shapeCells) (.int .i64 5)).run Tryd.prog w = .ok (.agg #[.int .i64 6, S wConfig, .int .i64 0, .int .i64 4, .bool false]) w := fun _ => by kernel_rfl
  go_enter Tryd.func41, Tryd.ntmps41
  go_wp2_with (refine wpList_load_row rfl 90 _ rfl 0 rfl ty shapeCells fr _ hg1 Tryd.underlying90 rfl Tryd.infoShapes ?_)
  have hsz : w.heap.size < (w.alloc (.cells zeroShape 68)).heap.size := by simp
  generalize (w.alloc (.cells zeroShape 68)) = w0 at *
  clear hg1
  go_loopw [7] (fun i wr => ∃ k : Nat, i = .int .i64 k ∧ k ≤ 6 ∧ Hid (∀ j, j < k → wordsL[j]? ≠ some l) ∧ Below w.heap.size w wr ∧ Hid (wr.heap[w.heap.size]? = some (.cells zeroShape 68 (0, 0)))) (fun i _ => 6 - (intOf i).toNat)
  case atStart => exact ⟨0, rfl, by omega, Lib.hid (fun j hj => by omega), hb, Lib.hid hP⟩
  case round =>
    clear hb hP hsz
    obtain ⟨k, rfl, hk, HW, hb, HP⟩ := hrel
    by_cases hk6 : k = 6
    · subst hk6
      have H0 := Lib.hid (wordOf_none HW.out)
      clear i0 i1 i2 i3 i4 i5 HW
      go_wp2_with (refine wpList_store_row rfl 68 _ _ rfl w.heap.size zeroShape rfl rfl 68 zeroShape HP.out (by kernel_rfl) rfl (by kernel_rfl) ?_)
      refine bodyPost_ret (results_cell_tmp rfl _ _ w.heap.size 68 _ (0, 0) _ rfl (setRow_heap _ _ _ _ _ _ HP.out) Tryd.underlying68 rfl (by kernel_rfl)) rfl ?_
      exact ⟨by rw [H0.out]; rfl, below_setRow hb (Nat.le_refl _) _⟩
    · have hP1 : ∀ o, (wr.alloc o).heap[w.heap.size]? = some (.cells zeroShape 68 (0, 0)) := fun o => (heap_alloc_old _ _ (block_lt HP.out)).trans HP.out
      have HP1 := Lib.hid hP1
      have hsz := block_lt HP.out
      have HW1 := Lib.hid (fun (h : wordsL[k]? ≠ some l) => snoc_none HW.out h)
      have hk7 : k < 6 := by omega
      clear hP1 HW hk hk6
      obtain rfl | rfl | rfl | rfl | rfl | rfl : k = 0 ∨ k = 1 ∨ k = 2 ∨ k = 3 ∨ k = 4 ∨ k = 5 := by omega
      · by_cases h : wBlock = l
        · subst h
          clear i1 i2 i3 i4 i5 HW1
          go_wp2_with (refine wpList_store_row rfl 68 _ _ rfl w.heap.size _ rfl rfl 68 zeroShape (HP1.out _) (by kernel_rfl) rfl (by kernel_rfl) ?_)
          refine bodyPost_ret (results_cell_tmp rfl _ _ w.heap.size 68 _ (0, 0) _ rfl (setRow_heap _ _ _ _ _ _ (HP1.out _)) Tryd.underlying68 rfl (by kernel_rfl)) rfl ?_
          exact ⟨rfl, below_setRow (hb.alloc (Nat.le_of_lt hsz) _) (Nat.le_refl _) _⟩
        · have hne := beq_no h
          have HW2 := Lib.hid (HW1.out (by simpa [wordsL] using h))
          clear i1 i2 i3 i4 i5 h HW1
          go_wp2
          go_roundw
          case rel => exact ⟨1, by go_num, by omega, HW2, hb.alloc (Nat.le_of_lt hsz) _, Lib.hid (HP1.out _)⟩
          case measure => simp [intOf]
      · by_cases h : wLane = l
        · subst h
          clear i0 i2 i3 i4 i5 HW1
          go_wp2_with (refine wpList_store_row rfl 68 _ _ rfl w.heap.size _ rfl rfl 68 zeroShape (HP1.out _) (by kernel_rfl) rfl (by kernel_rfl) ?_)
          refine bodyPost_ret (results_cell_tmp rfl _ _ w.heap.size 68 _ (0, 0) _ rfl (setRow_heap _ _ _ _ _ _ (HP1.out _)) Tryd.underlying68 rfl (by kernel_rfl)) rfl ?_
          exact ⟨rfl, below_setRow (hb.alloc (Nat.le_of_lt hsz) _) (Nat.le_refl _) _⟩
        · have hne := beq_no h
          have HW2 := Lib.hid (HW1.out (by simpa [wordsL] using h))
          clear i0 i2 i3 i4 i5 h HW1
          go_wp2
          go_roundw
          case rel => exact ⟨2, by go_num, by omega, HW2, hb.alloc (Nat.le_of_lt hsz) _, Lib.hid (HP1.out _)⟩
          case measure => simp [intOf]
      · by_cases h : wStation = l
        · subst h
          clear i0 i1 i3 i4 i5 HW1
          go_wp2_with (refine wpList_store_row rfl 68 _ _ rfl w.heap.size _ rfl rfl 68 zeroShape (HP1.out _) (by kernel_rfl) rfl (by kernel_rfl) ?_)
          refine bodyPost_ret (results_cell_tmp rfl _ _ w.heap.size 68 _ (0, 0) _ rfl (setRow_heap _ _ _ _ _ _ (HP1.out _)) Tryd.underlying68 rfl (by kernel_rfl)) rfl ?_
          exact ⟨rfl, below_setRow (hb.alloc (Nat.le_of_lt hsz) _) (Nat.le_refl _) _⟩
        · have hne := beq_no h
          have HW2 := Lib.hid (HW1.out (by simpa [wordsL] using h))
          clear i0 i1 i3 i4 i5 h HW1
          go_wp2
          go_roundw
          case rel => exact ⟨3, by go_num, by omega, HW2, hb.alloc (Nat.le_of_lt hsz) _, Lib.hid (HP1.out _)⟩
          case measure => simp [intOf]
      · by_cases h : wDepot = l
        · subst h
          clear i0 i1 i2 i4 i5 HW1
          go_wp2_with (refine wpList_store_row rfl 68 _ _ rfl w.heap.size _ rfl rfl 68 zeroShape (HP1.out _) (by kernel_rfl) rfl (by kernel_rfl) ?_)
          refine bodyPost_ret (results_cell_tmp rfl _ _ w.heap.size 68 _ (0, 0) _ rfl (setRow_heap _ _ _ _ _ _ (HP1.out _)) Tryd.underlying68 rfl (by kernel_rfl)) rfl ?_
          exact ⟨rfl, below_setRow (hb.alloc (Nat.le_of_lt hsz) _) (Nat.le_refl _) _⟩
        · have hne := beq_no h
          have HW2 := Lib.hid (HW1.out (by simpa [wordsL] using h))
          clear i0 i1 i2 i4 i5 h HW1
          go_wp2
          go_roundw
          case rel => exact ⟨4, by go_num, by omega, HW2, hb.alloc (Nat.le_of_lt hsz) _, Lib.hid (HP1.out _)⟩
          case measure => simp [intOf]
      · by_cases h : wRobot = l
        · subst h
          clear i0 i1 i2 i3 i5 HW1
          go_wp2_with (refine wpList_store_row rfl 68 _ _ rfl w.heap.size _ rfl rfl 68 zeroShape (HP1.out _) (by kernel_rfl) rfl (by kernel_rfl) ?_)
          refine bodyPost_ret (results_cell_tmp rfl _ _ w.heap.size 68 _ (0, 0) _ rfl (setRow_heap _ _ _ _ _ _ (HP1.out _)) Tryd.underlying68 rfl (by kernel_rfl)) rfl ?_
          exact ⟨rfl, below_setRow (hb.alloc (Nat.le_of_lt hsz) _) (Nat.le_refl _) _⟩
        · have hne := beq_no h
          have HW2 := Lib.hid (HW1.out (by simpa [wordsL] using h))
          clear i0 i1 i2 i3 i5 h HW1
          go_wp2
          go_roundw
          case rel => exact ⟨5, by go_num, by omega, HW2, hb.alloc (Nat.le_of_lt hsz) _, Lib.hid (HP1.out _)⟩
          case measure => simp [intOf]
      · by_cases h : wConfig = l
        · subst h
          clear i0 i1 i2 i3 i4 HW1
          go_wp2_with (refine wpList_store_row rfl 68 _ _ rfl w.heap.size _ rfl rfl 68 zeroShape (HP1.out _) (by kernel_rfl) rfl (by kernel_rfl) ?_)
          refine bodyPost_ret (results_cell_tmp rfl _ _ w.heap.size 68 _ (0, 0) _ rfl (setRow_heap _ _ _ _ _ _ (HP1.out _)) Tryd.underlying68 rfl (by kernel_rfl)) rfl ?_
          exact ⟨rfl, below_setRow (hb.alloc (Nat.le_of_lt hsz) _) (Nat.le_refl _) _⟩
        · have hne := beq_no h
          have HW2 := Lib.hid (HW1.out (by simpa [wordsL] using h))
          clear i0 i1 i2 i3 i4 h HW1
          go_wp2
          go_roundw
          case rel => exact ⟨6, by go_num, by omega, HW2, hb.alloc (Nat.le_of_lt hsz) _, Lib.hid (HP1.out _)⟩
          case measure => simp [intOf]
/-- The number of a word, if it is one; else 0. -/
def wordN (n : Int) : Nat := if 1 ≤ n ∧ n ≤ 6 then n.toNat else 0
theorem wordN_none {n : Int} (h : ∀ j : Nat, j < 6 → n ≠ (j : Int) + 1) : wordN n = 0 := by
  unfold wordN
  rw [if_neg]
  rintro ⟨h1, h2⟩
  exact h (n - 1).toNat (by omega) (by omega)
theorem snocN {n : Int} {k : Nat} (h : ∀ j : Nat, j < k → n ≠ (j : Int) + 1) (h2 : n ≠ (k : Int) + 1) : ∀ j : Nat, j < k + 1 → n ≠ (j : Int) + 1 := fun j hj => by
  rcases Nat.lt_succ_iff_lt_or_eq.1 hj with h' | rfl
  · exact h j h'
  · exact h2
set_option maxRecDepth 100000 in
set_option maxHeartbeats 4000000 in
theorem shapeOfWord_c (n : Int) (w : World) (hg : Shapes w) :
    Calls Tryd.prog 19 #[.int .i64 n] w fun e w' => e = .returned (.tuple #[shapeV (wordN n), .bool (decide (wordN n ≠ 0))]) ∧ Below w.heap.size w w' := by
  obtain ⟨ty, fr, hg⟩ := hg
  have hg1 : (w.alloc (.cells zeroShape 68)).heap[0]? = some (.cells shapeCells ty fr) := (heap_alloc_old w _ (block_lt hg)).trans hg
  have hb : Below w.heap.size w (w.alloc (.cells zeroShape 68)) := (Below.refl _ _).alloc (Nat.le_refl _) _
  have hP : (w.alloc (.cells zeroShape 68)).heap[w.heap.size]? = some (.cells zeroShape 68 (0, 0)) := heap_alloc_new w _
  clear hg
  have i0 : ∀ w, (Instr.index 90 (.agg shapeCells) (.int .i64 0)).run Tryd.prog w = .ok (.agg #[.int .i64 1, S wBlock, .int .i64 1, .int .i64 2, .bool false]) w := fun _ => by kernel_rfl
  have i1 : ∀ w, (Instr.index 90 (.agg shapeCells) (.int .i64 1)).run Tryd.prog w = .ok (.agg #[.int .i64 2, S wLane, .int .i64 2, .int .i64 0, .bool true]) w := fun _ => by kernel_rfl
  have i2 : ∀ w, (Instr.index 90 (.agg shapeCells) (.int .i64 2)).run Tryd.prog w = .ok (.agg #[.int .i64 3, S wStation, .int .i64 3, .int .i64 1, .bool false]) w := fun _ => by kernel_rfl
  have i3 : ∀ w, (Instr.index 90 (.agg shapeCells) (.int .i64 3)).run Tryd.prog w = .ok (.agg #[.int .i64 4, S wDepot, .int .i64 3, .int .i64 1, .bool false]) w := fun _ => by kernel_rfl
  have i4 : ∀ w, (Instr.index 90 (.agg shapeCells) (.int .i64 4)).run Tryd.prog w = .ok (.agg #[.int .i64 5, S wRobot, .int .i64 1, .int .i64 1, .bool false]) w := fun _ => by kernel_rfl
  have i5 : ∀ w, (Instr.index 90 (.agg shapeCells) (.int .i64 5)).run Tryd.prog w = .ok (.agg #[.int .i64 6, S wConfig, .int .i64 0, .int .i64 4, .bool false]) w := fun _ => by kernel_rfl
  go_enter Tryd.func19, Tryd.ntmps19
  go_wp2_with (refine wpList_load_row rfl 90 _ rfl 0 rfl ty shapeCells fr _ hg1 Tryd.underlying90 rfl Tryd.infoShapes ?_)
  have hsz : w.heap.size < (w.alloc (.cells zeroShape 68)).heap.size := by simp
  generalize (w.alloc (.cells zeroShape 68)) = w0 at *
  clear hg1
  go_loopw [7] (fun i wr => ∃ k : Nat, i = .int .i64 k ∧ k ≤ 6 ∧ Hid (∀ j : Nat, j < k → n ≠ (j : Int) + 1) ∧ Below w.heap.size w wr ∧ Hid (wr.heap[w.heap.size]? = some (.cells zeroShape 68 (0, 0)))) (fun i _ => 6 - (intOf i).toNat)
  case atStart => exact ⟨0, rfl, by omega, Lib.hid (fun j hj => by omega), hb, Lib.hid hP⟩
  case round =>
    clear hb hP hsz
    obtain ⟨k, rfl, hk, HW, hb, HP⟩ := hrel
    by_cases hk6 : k = 6
    · subst hk6
      have H0 := Lib.hid (wordN_none HW.out)
      clear i0 i1 i2 i3 i4 i5 HW
      go_wp2_with (refine wpList_store_row rfl 68 _ _ rfl w.heap.size zeroShape rfl rfl 68 zeroShape HP.out (by kernel_rfl) rfl (by kernel_rfl) ?_)
      refine bodyPost_ret (results_cell_tmp rfl _ _ w.heap.size 68 _ (0, 0) _ rfl (setRow_heap _ _ _ _ _ _ HP.out) Tryd.underlying68 rfl (by kernel_rfl)) rfl ?_
      exact ⟨by rw [H0.out]; rfl, below_setRow hb (Nat.le_refl _) _⟩
    · have hP1 : ∀ o, (wr.alloc o).heap[w.heap.size]? = some (.cells zeroShape 68 (0, 0)) := fun o => (heap_alloc_old _ _ (block_lt HP.out)).trans HP.out
      have HP1 := Lib.hid hP1
      have hsz := block_lt HP.out
      have HW1 := Lib.hid (fun (h : n ≠ (k : Int) + 1) => snocN HW.out h)
      have hk7 : k < 6 := by omega
      clear hP1 HW hk hk6
      obtain rfl | rfl | rfl | rfl | rfl | rfl : k = 0 ∨ k = 1 ∨ k = 2 ∨ k = 3 ∨ k = 4 ∨ k = 5 := by omega
      · by_cases h : n = 1
        · subst h
          clear i1 i2 i3 i4 i5 HW1
          go_wp2_with (refine wpList_store_row rfl 68 _ _ rfl w.heap.size _ rfl rfl 68 zeroShape (HP1.out _) (by kernel_rfl) rfl (by kernel_rfl) ?_)
          refine bodyPost_ret (results_cell_tmp rfl _ _ w.heap.size 68 _ (0, 0) _ rfl (setRow_heap _ _ _ _ _ _ (HP1.out _)) Tryd.underlying68 rfl (by kernel_rfl)) rfl ?_
          exact ⟨rfl, below_setRow (hb.alloc (Nat.le_of_lt hsz) _) (Nat.le_refl _) _⟩
        · have hne : ((1 : Int) == n) = false := by rw [beq_eq_false_iff_ne]; omega
          have HW2 := Lib.hid (HW1.out (by simpa using h))
          clear i1 i2 i3 i4 i5 h HW1
          go_wp2
          go_roundw
          case rel => exact ⟨1, by go_num, by omega, HW2, hb.alloc (Nat.le_of_lt hsz) _, Lib.hid (HP1.out _)⟩
          case measure => simp [intOf]
      · by_cases h : n = 2
        · subst h
          clear i0 i2 i3 i4 i5 HW1
          go_wp2_with (refine wpList_store_row rfl 68 _ _ rfl w.heap.size _ rfl rfl 68 zeroShape (HP1.out _) (by kernel_rfl) rfl (by kernel_rfl) ?_)
          refine bodyPost_ret (results_cell_tmp rfl _ _ w.heap.size 68 _ (0, 0) _ rfl (setRow_heap _ _ _ _ _ _ (HP1.out _)) Tryd.underlying68 rfl (by kernel_rfl)) rfl ?_
          exact ⟨rfl, below_setRow (hb.alloc (Nat.le_of_lt hsz) _) (Nat.le_refl _) _⟩
        · have hne : ((2 : Int) == n) = false := by rw [beq_eq_false_iff_ne]; omega
          have HW2 := Lib.hid (HW1.out (by simpa using h))
          clear i0 i2 i3 i4 i5 h HW1
          go_wp2
          go_roundw
          case rel => exact ⟨2, by go_num, by omega, HW2, hb.alloc (Nat.le_of_lt hsz) _, Lib.hid (HP1.out _)⟩
          case measure => simp [intOf]
      · by_cases h : n = 3
        · subst h
          clear i0 i1 i3 i4 i5 HW1
          go_wp2_with (refine wpList_store_row rfl 68 _ _ rfl w.heap.size _ rfl rfl 68 zeroShape (HP1.out _) (by kernel_rfl) rfl (by kernel_rfl) ?_)
          refine bodyPost_ret (results_cell_tmp rfl _ _ w.heap.size 68 _ (0, 0) _ rfl (setRow_heap _ _ _ _ _ _ (HP1.out _)) Tryd.underlying68 rfl (by kernel_rfl)) rfl ?_
          exact ⟨rfl, below_setRow (hb.alloc (Nat.le_of_lt hsz) _) (Nat.le_refl _) _⟩
        · have hne : ((3 : Int) == n) = false := by rw [beq_eq_false_iff_ne]; omega
          have HW2 := Lib.hid (HW1.out (by simpa using h))
          clear i0 i1 i3 i4 i5 h HW1
          go_wp2
          go_roundw
          case rel => exact ⟨3, by go_num, by omega, HW2, hb.alloc (Nat.le_of_lt hsz) _, Lib.hid (HP1.out _)⟩
          case measure => simp [intOf]
      · by_cases h : n = 4
        · subst h
          clear i0 i1 i2 i4 i5 HW1
          go_wp2_with (refine wpList_store_row rfl 68 _ _ rfl w.heap.size _ rfl rfl 68 zeroShape (HP1.out _) (by kernel_rfl) rfl (by kernel_rfl) ?_)
          refine bodyPost_ret (results_cell_tmp rfl _ _ w.heap.size 68 _ (0, 0) _ rfl (setRow_heap _ _ _ _ _ _ (HP1.out _)) Tryd.underlying68 rfl (by kernel_rfl)) rfl ?_
          exact ⟨rfl, below_setRow (hb.alloc (Nat.le_of_lt hsz) _) (Nat.le_refl _) _⟩
        · have hne : ((4 : Int) == n) = false := by rw [beq_eq_false_iff_ne]; omega
          have HW2 := Lib.hid (HW1.out (by simpa using h))
          clear i0 i1 i2 i4 i5 h HW1
          go_wp2
          go_roundw
          case rel => exact ⟨4, by go_num, by omega, HW2, hb.alloc (Nat.le_of_lt hsz) _, Lib.hid (HP1.out _)⟩
          case measure => simp [intOf]
      · by_cases h : n = 5
        · subst h
          clear i0 i1 i2 i3 i5 HW1
          go_wp2_with (refine wpList_store_row rfl 68 _ _ rfl w.heap.size _ rfl rfl 68 zeroShape (HP1.out _) (by kernel_rfl) rfl (by kernel_rfl) ?_)
          refine bodyPost_ret (results_cell_tmp rfl _ _ w.heap.size 68 _ (0, 0) _ rfl (setRow_heap _ _ _ _ _ _ (HP1.out _)) Tryd.underlying68 rfl (by kernel_rfl)) rfl ?_
          exact ⟨rfl, below_setRow (hb.alloc (Nat.le_of_lt hsz) _) (Nat.le_refl _) _⟩
        · have hne : ((5 : Int) == n) = false := by rw [beq_eq_false_iff_ne]; omega
          have HW2 := Lib.hid (HW1.out (by simpa using h))
          clear i0 i1 i2 i3 i5 h HW1
          go_wp2
          go_roundw
          case rel => exact ⟨5, by go_num, by omega, HW2, hb.alloc (Nat.le_of_lt hsz) _, Lib.hid (HP1.out _)⟩
          case measure => simp [intOf]
      · by_cases h : n = 6
        · subst h
          clear i0 i1 i2 i3 i4 HW1
          go_wp2_with (refine wpList_store_row rfl 68 _ _ rfl w.heap.size _ rfl rfl 68 zeroShape (HP1.out _) (by kernel_rfl) rfl (by kernel_rfl) ?_)
          refine bodyPost_ret (results_cell_tmp rfl _ _ w.heap.size 68 _ (0, 0) _ rfl (setRow_heap _ _ _ _ _ _ (HP1.out _)) Tryd.underlying68 rfl (by kernel_rfl)) rfl ?_
          exact ⟨rfl, below_setRow (hb.alloc (Nat.le_of_lt hsz) _) (Nat.le_refl _) _⟩
        · have hne : ((6 : Int) == n) = false := by rw [beq_eq_false_iff_ne]; omega
          have HW2 := Lib.hid (HW1.out (by simpa using h))
          clear i0 i1 i2 i3 i4 h HW1
          go_wp2
          go_roundw
          case rel => exact ⟨6, by go_num, by omega, HW2, hb.alloc (Nat.le_of_lt hsz) _, Lib.hid (HP1.out _)⟩
          case measure => simp [intOf]
end Go.Proofs.YtgjnhefmheefbaaDoor
namespace Go.Proofs.YtgjnhefmheefbaaDoor
open Go.RowKit Fl
attribute [local go_sem] bget

theorem digitB_bounds {c : UInt8} (h : digitB c = true) : 48 ≤ c.toNat ∧ c.toNat ≤ 57 := by simpa [digitB] using h
theorem cutMinus_yes (d : List UInt8) (w : World) : Calls Tryd.prog 56 #[.string ⟨(45 :: d).toArray⟩, .string ⟨#[45]⟩] w fun e w' => e = .returned (.tuple #[.string ⟨d.toArray⟩, .bool true]) ∧ w = w' :=
  (Tryd.strings_CutPrefix ⟨(45 :: d).toArray⟩ ⟨#[45]⟩ w).mono fun e w' ⟨he, hw⟩ => ⟨by rw [he]; simp [Lib.trimPrefix, Lib.hasPrefix], hw.symm⟩
theorem cutMinus_no (l : List UInt8) (w : World) (h : l.head? ≠ some 45) : Calls Tryd.prog 56 #[.string ⟨l.toArray⟩, .string ⟨#[45]⟩] w fun e w' => e = .returned (.tuple #[.string ⟨l.toArray⟩, .bool false]) ∧ w = w' :=
  (Tryd.strings_CutPrefix ⟨l.toArray⟩ ⟨#[45]⟩ w).mono fun e w' ⟨he, hw⟩ => ⟨by
    rw [he]
    have hp : Lib.hasPrefix l [45] = false := by
      cases l with
      | nil => rfl
      | cons c r => simp at h; simp [Lib.hasPrefix, List.isPrefixOf, Ne.symm h]
    simp [Lib.trimPrefix, hp], hw.symm⟩
theorem first_cases {l d : List UInt8} (hl : 0 < d.length) (h1 : ¬ (d.head? = some 48 ∧ l ≠ [48])) : ((d[0].toNat : Int) == 48) = false ∨ (((d[0].toNat : Int) == 48) = true ∧ (l == [48]) = true) := by
  by_cases e : d[0].toNat = 48
  · refine .inr ⟨by rw [e]; rfl, beq_iff_eq.2 (Decidable.byContradiction fun hne => h1 ⟨?_, hne⟩)⟩
    cases d with
    | nil => simp at hl
    | cons c r => simp at e ⊢; exact UInt8.toNat_inj.1 (by simpa using e)
  · left; rw [beq_eq_false_iff_ne]; omega

set_option maxHeartbeats 2000000 in
theorem Number_pos (d : List UInt8) (w : World) (hs : d.length ≤ 9223372036854775000) (h : d.head? ≠ some 45) : Calls Tryd.prog 50 #[.string ⟨d.toArray⟩] w fun e w' => e = .returned (ret2 (num (d))) ∧ w = w' := by
  have C := Lib.hid (cutMinus_no d w h)
  have HP := Lib.hid (num_pos h)
  clear h
  by_cases h0 : d = []
  · subst h0
    go_enter Tryd.func50, Tryd.ntmps50
    go_wp2_with (first | (go_at_call 56; refine (C.out).mono ?_; rintro e w' ⟨rfl, rfl⟩) | (go_at_call 49; refine (fields_isDigit_c _ _).mono ?_; rintro e w' ⟨rfl, rfl⟩))
    go_ret2
    exact ⟨by rw [HP.out]; rfl, rfl⟩
  · have hl : 0 < d.length := List.length_pos_iff.2 h0
    have e1 : d.isEmpty = false := by simpa using h0
    by_cases h1 : d.head? = some 48 ∧ (d) ≠ [48]
    · have h2 : d[0] = 48 := by obtain ⟨h1, _⟩ := h1; cases d with
        | nil => simp at h0
        | cons c r => simpa using h1
      have h3 : ((d[0].toNat : Int) == 48) = true := by rw [h2]; rfl
      have h4 : ((d) == [48]) = false := beq_eq_false_iff_ne.2 h1.2
      have HN := Lib.hid (numOf_zero (neg := false) h1.1 h1.2)
      clear h1 h2
      go_enter Tryd.func50, Tryd.ntmps50
      go_wp2_with (first | (go_at_call 56; refine (C.out).mono ?_; rintro e w' ⟨rfl, rfl⟩) | (go_at_call 49; refine (fields_isDigit_c _ _).mono ?_; rintro e w' ⟨rfl, rfl⟩))
      go_ret2
      exact ⟨by rw [HP.out, HN.out]; rfl, rfl⟩
    · have hc := first_cases hl h1
      have H1 := Lib.hid h1
      clear h1
      rcases hc with h2 | ⟨h2, h3⟩
      
      all_goals
        go_enter Tryd.func50, Tryd.ntmps50
        go_wp2_with (first | (go_at_call 56; refine (C.out).mono ?_; rintro e w' ⟨rfl, rfl⟩) | (go_at_call 49; refine (fields_isDigit_c _ _).mono ?_; rintro e w' ⟨rfl, rfl⟩))
        go_loop [26, 6, 7] (fun i n _ => ∃ k v : Nat, k ≤ d.length ∧ i = .int .i64 k ∧ n = .int .i64 v ∧ v ≤ 9999 ∧ Hid (digitsVal 0 d = digitsVal v (d.drop k))) (fun i _ _ => d.length - (intOf i).toNat)
        case atStart => exact ⟨0, 0, Nat.zero_le _, rfl, rfl, by omega, Lib.hid rfl⟩
        case round =>
          obtain ⟨k, v, hk, rfl, rfl, hv, HD⟩ := hrel
          by_cases hlt : k < d.length
          · by_cases hd : digitB d[k] = true
            · have hb := digitB_bounds hd
              by_cases hg : 10 * v + (d[k].toNat - 48) ≤ 9999
              · have HS := Lib.hid (digitsVal_step hlt hd hg)
                go_wp2_with (go_at_call 49; refine (fields_isDigit_c _ _).mono ?_; rintro e w' ⟨rfl, rfl⟩)
                go_round
                case rel => exact ⟨k + 1, 10 * v + (d[k].toNat - 48), by omega, by go_num, by congr 1; omega, hg, Lib.hid (HD.out.trans HS.out)⟩
                case measure => simp [intOf]; omega
              · have HN := Lib.hid (numOf_none (neg := false) (l := d) (HD.out.trans (digitsVal_big hlt (by omega))))
                go_wp2_with (go_at_call 49; refine (fields_isDigit_c _ _).mono ?_; rintro e w' ⟨rfl, rfl⟩)
                go_ret2
                exact ⟨by rw [HP.out, HN.out]; rfl, rfl⟩
            · have hd' : digitB d[k] = false := by simpa using hd
              clear hd
              have HN := Lib.hid (numOf_none (neg := false) (l := d) (HD.out.trans (digitsVal_bad hlt hd')))
              go_wp2_with (go_at_call 49; refine (fields_isDigit_c _ _).mono ?_; rintro e w' ⟨rfl, rfl⟩)
              go_ret2
              exact ⟨by rw [HP.out, HN.out]; rfl, rfl⟩
          · have HN := Lib.hid (numOf_some (neg := false) h0 H1.out (HD.out.trans (by rw [List.drop_of_length_le (by omega)]; rfl)))
            go_wp2
            go_ret2
            exact ⟨by rw [HP.out, HN.out]; rfl, rfl⟩
set_option maxHeartbeats 2000000 in
theorem Number_neg (d : List UInt8) (w : World) (hs : d.length ≤ 9223372036854775000) : Calls Tryd.prog 50 #[.string ⟨(45 :: d).toArray⟩] w fun e w' => e = .returned (ret2 (num (45 :: d))) ∧ w = w' := by
  have C := Lib.hid (cutMinus_yes d w)
  have HP := Lib.hid (num_neg d)
  by_cases h0 : d = []
  · subst h0
    go_enter Tryd.func50, Tryd.ntmps50
    go_wp2_with (first | (go_at_call 56; refine (C.out).mono ?_; rintro e w' ⟨rfl, rfl⟩) | (go_at_call 49; refine (fields_isDigit_c _ _).mono ?_; rintro e w' ⟨rfl, rfl⟩))
    go_ret2
    exact ⟨by rw [HP.out]; rfl, rfl⟩
  · have hl : 0 < d.length := List.length_pos_iff.2 h0
    have e1 : d.isEmpty = false := by simpa using h0
    by_cases h1 : d.head? = some 48 ∧ (45 :: d) ≠ [48]
    · have h2 : d[0] = 48 := by obtain ⟨h1, _⟩ := h1; cases d with
        | nil => simp at h0
        | cons c r => simpa using h1
      have h3 : ((d[0].toNat : Int) == 48) = true := by rw [h2]; rfl
      have h4 : ((45 :: d) == [48]) = false := beq_eq_false_iff_ne.2 h1.2
      have HN := Lib.hid (numOf_zero (neg := true) h1.1 h1.2)
      clear h1 h2
      go_enter Tryd.func50, Tryd.ntmps50
      go_wp2_with (first | (go_at_call 56; refine (C.out).mono ?_; rintro e w' ⟨rfl, rfl⟩) | (go_at_call 49; refine (fields_isDigit_c _ _).mono ?_; rintro e w' ⟨rfl, rfl⟩))
      go_ret2
      exact ⟨by rw [HP.out, HN.out]; rfl, rfl⟩
    · have hc := first_cases hl h1
      have H1 := Lib.hid h1
      clear h1
      rcases hc with h2 | ⟨h2, h3⟩
      rotate_left
      · exact absurd h3 (by simp)
      all_goals
        go_enter Tryd.func50, Tryd.ntmps50
        go_wp2_with (first | (go_at_call 56; refine (C.out).mono ?_; rintro e w' ⟨rfl, rfl⟩) | (go_at_call 49; refine (fields_isDigit_c _ _).mono ?_; rintro e w' ⟨rfl, rfl⟩))
        go_loop [26, 6, 7] (fun i n _ => ∃ k v : Nat, k ≤ d.length ∧ i = .int .i64 k ∧ n = .int .i64 v ∧ v ≤ 9999 ∧ Hid (digitsVal 0 d = digitsVal v (d.drop k))) (fun i _ _ => d.length - (intOf i).toNat)
        case atStart => exact ⟨0, 0, Nat.zero_le _, rfl, rfl, by omega, Lib.hid rfl⟩
        case round =>
          obtain ⟨k, v, hk, rfl, rfl, hv, HD⟩ := hrel
          by_cases hlt : k < d.length
          · by_cases hd : digitB d[k] = true
            · have hb := digitB_bounds hd
              by_cases hg : 10 * v + (d[k].toNat - 48) ≤ 9999
              · have HS := Lib.hid (digitsVal_step hlt hd hg)
                go_wp2_with (go_at_call 49; refine (fields_isDigit_c _ _).mono ?_; rintro e w' ⟨rfl, rfl⟩)
                go_round
                case rel => exact ⟨k + 1, 10 * v + (d[k].toNat - 48), by omega, by go_num, by congr 1; omega, hg, Lib.hid (HD.out.trans HS.out)⟩
                case measure => simp [intOf]; omega
              · have HN := Lib.hid (numOf_none (neg := true) (l := 45 :: d) (HD.out.trans (digitsVal_big hlt (by omega))))
                go_wp2_with (go_at_call 49; refine (fields_isDigit_c _ _).mono ?_; rintro e w' ⟨rfl, rfl⟩)
                go_ret2
                exact ⟨by rw [HP.out, HN.out]; rfl, rfl⟩
            · have hd' : digitB d[k] = false := by simpa using hd
              clear hd
              have HN := Lib.hid (numOf_none (neg := true) (l := 45 :: d) (HD.out.trans (digitsVal_bad hlt hd')))
              go_wp2_with (go_at_call 49; refine (fields_isDigit_c _ _).mono ?_; rintro e w' ⟨rfl, rfl⟩)
              go_ret2
              exact ⟨by rw [HP.out, HN.out]; rfl, rfl⟩
          · have HN := Lib.hid (numOf_some (neg := true) h0 H1.out (HD.out.trans (by rw [List.drop_of_length_le (by omega)]; rfl)))
            go_wp2
            go_ret2
            exact ⟨by rw [HP.out, HN.out]; rfl, rfl⟩
theorem Number_c (l : List UInt8) (w : World) (hs : l.length ≤ 9223372036854775000) : Calls Tryd.prog 50 #[.string ⟨l.toArray⟩] w fun e w' => e = .returned (ret2 (num l)) ∧ w = w' := by
  by_cases h : l.head? = some 45
  · cases l with
    | nil => simp at h
    | cons c r =>
      obtain rfl : c = 45 := by simpa using h
      exact Number_neg r w (by simp at hs; omega)
  · exact Number_pos l w hs h
end Go.Proofs.YtgjnhefmheefbaaDoor
namespace Go.Proofs.YtgjnhefmheefbaaDoor
open Go.RowKit Fl
attribute [local go_sem] bget

/-- The slice v holds the strings ss. -/
def StrsAt (w : World) (v : Value) (ss : List (List UInt8)) : Prop := ∃ A c, v = .slice A ss.length c ∧ Holds w A (ss.map S)
theorem StrsAt.keep {w w' : World} {v : Value} {ss : List (List UInt8)} (h : StrsAt w v ss) (hb : Below w.heap.size w w') : StrsAt w' v ss := by
  obtain ⟨A, c, hv, hh⟩ := h
  exact ⟨A, c, hv, hh.keep hb⟩
theorem own_slice {w : World} {base : Nat} {e : TypeId} {size n : Nat} {v : Value} {xs : List Value} (h : w.ownsRow base e size v n xs) : ∃ A c, v = .slice A n c := by
  obtain ⟨_, h2⟩ := h
  rcases h2 with ⟨rfl, rfl⟩ | ⟨g, cap, cur, rfl, _⟩
  · exact ⟨_, _, rfl⟩
  · exact ⟨_, _, rfl⟩
/-- The cells of lines: a number and a slice for each. -/
def lineCells : List (Nat × List (List UInt8)) → List Value → List Value
  | l :: ls, fv :: fvs => .int .i64 l.1 :: fv :: lineCells ls fvs
  | _, _ => []
theorem lineCells_snoc : ∀ (ls : List (Nat × List (List UInt8))) (fvs : List Value) (l : Nat × List (List UInt8)) (fv : Value), fvs.length = ls.length → lineCells (ls ++ [l]) (fvs ++ [fv]) = lineCells ls fvs ++ [.int .i64 l.1, fv]
  | [], [], _, _, _ => rfl
  | [], _ :: _, _, _, h => by simp at h
  | _ :: _, [], _, _, h => by simp at h
  | a :: ls, b :: fvs, l, fv, h => by
    simp only [List.cons_append, lineCells]
    rw [lineCells_snoc ls fvs l fv (by simpa using h)]
theorem lineCells_length : ∀ (ls : List (Nat × List (List UInt8))) (fvs : List Value), fvs.length = ls.length → (lineCells ls fvs).length = ls.length * 2
  | [], [], _ => rfl
  | [], _ :: _, h => by simp at h
  | _ :: _, [], h => by simp at h
  | a :: ls, b :: fvs, h => by
    simp only [lineCells, List.length_cons]
    rw [lineCells_length ls fvs (by simpa using h)]; omega
/-- The slice v, a row of the call's own, holds the lines ls. -/
def LinesOwn (w : World) (base : Nat) (v : Value) (ls : List (Nat × List (List UInt8))) : Prop :=
  ∃ fvs : List Value, fvs.length = ls.length ∧ w.ownsRow base 52 2 v ls.length (lineCells ls fvs) ∧ ∀ (i : Nat) (fv : Value) (l : Nat × List (List UInt8)), fvs[i]? = some fv → ls[i]? = some l → w.ownsRow base 9 1 fv l.2.length (l.2.map S)
theorem strs_of_own {w : World} {base : Nat} {fv : Value} {ss : List (List UInt8)} (h : w.ownsRow base 9 1 fv ss.length (ss.map S)) : StrsAt w fv ss := by
  obtain ⟨A, c, rfl⟩ := own_slice h
  exact ⟨A, c, rfl, ownsRow_holds h⟩
/-- The slice v holds the lines ls. -/
def LinesAt (w : World) (v : Value) (ls : List (Nat × List (List UInt8))) : Prop :=
  ∃ A c fvs, v = .slice A ls.length c ∧ fvs.length = ls.length ∧ Holds w A (lineCells ls fvs) ∧ ∀ (i : Nat) (fv : Value) (l : Nat × List (List UInt8)), fvs[i]? = some fv → ls[i]? = some l → StrsAt w fv l.2
theorem LinesOwn.at_ {w : World} {base : Nat} {v : Value} {ls : List (Nat × List (List UInt8))} (h : LinesOwn w base v ls) : LinesAt w v ls := by
  obtain ⟨fvs, hl, hown, hf⟩ := h
  obtain ⟨A, c, rfl⟩ := own_slice hown
  exact ⟨A, c, fvs, rfl, hl, ownsRow_holds hown, fun i fv l h1 h2 => strs_of_own (hf i fv l h1 h2)⟩
theorem LinesOwn.keep {w w' : World} {base : Nat} {v : Value} {ls : List (Nat × List (List UInt8))} (h : LinesOwn w base v ls) (hb : Below w.heap.size w w') : LinesOwn w' base v ls := by
  obtain ⟨fvs, hl, hown, hf⟩ := h
  exact ⟨fvs, hl, ownsRow_below hown hb, fun i fv l h1 h2 => ownsRow_below (hf i fv l h1 h2) hb⟩
theorem LinesAt.keep {w w' : World} {v : Value} {ls : List (Nat × List (List UInt8))} (h : LinesAt w v ls) (hb : Below w.heap.size w w') : LinesAt w' v ls := by
  obtain ⟨A, c, fvs, hv, hl, hh, hf⟩ := h
  exact ⟨A, c, fvs, hv, hl, hh.keep hb, fun i fv l h1 h2 => (hf i fv l h1 h2).keep hb⟩
def LinesPost (w : World) (R : Except (Nat × Nat) (List (Nat × List (List UInt8)))) (e : Ending) (w' : World) : Prop :=
  Below w.heap.size w w' ∧ match R with
    | .ok ls => ∃ v, e = .returned (.tuple #[v, .int .i64 0, .int .i64 0]) ∧ LinesAt w' v ls
    | .error (n, k) => e = .returned (.tuple #[.slice none 0 0, .int .i64 n, .int .i64 k])

theorem scanA_err : ∀ (l cur : List UInt8) (acc : List (List UInt8)) (e : Nat), scanA cur acc l = .error e → e = 2 ∨ e = 3
  | [], _, _, _, h => by cases h
  | c :: r, cur, acc, e, h => by
    unfold scanA at h
    split at h
    · cases h
    · split at h
      · exact scanA_err r _ _ e h
      · split at h
        · split at h
          · injection h with h; omega
          · exact scanA_err r _ _ e h
        · injection h with h; omega
theorem scanA_count : ∀ (l cur : List UInt8) (acc fs : List (List UInt8)), scanA cur acc l = .ok fs → fs.length ≤ acc.length + 1 + l.length
  | [], cur, acc, fs, h => by
    injection h with h; subst h; unfold flush; split <;> simp
  | c :: r, cur, acc, fs, h => by
    have hf : ∀ a : List (List UInt8), flush cur a = a ∨ flush cur a = a ++ [cur] := fun a => by unfold flush; split <;> simp
    unfold scanA at h
    split at h
    · injection h with h; subst h
      rcases hf acc with e | e <;> rw [e] <;> simp; omega
    · split at h
      · have := scanA_count r _ _ fs h
        rcases hf acc with e | e <;> rw [e] at this <;> simp at this ⊢ <;> omega
      · split at h
        · split at h
          · cases h
          · have := scanA_count r _ _ fs h
            simp at this ⊢; omega
        · cases h
theorem LinesOwn.snoc {w w2 w3 : World} {base n : Nat} {v v' : Value} {ls : List (Nat × List (List UInt8))} {fvs : List Value} {A : Option Addr} {c num : Nat} {fs : List (List UInt8)} {cs : Array Value} {t : TypeId}
    (hl : fvs.length = ls.length) (hown : w2.ownsRow base 52 2 v ls.length (lineCells ls fvs)) (hf : ∀ (i : Nat) (fv : Value) (l : Nat × List (List UInt8)), fvs[i]? = some fv → ls[i]? = some l → w.ownsRow base 9 1 fv l.2.length (l.2.map S))
    (hb : Below w.heap.size w w2) (hn : w2.ownsRow n 9 1 (.slice A fs.length c) fs.length (fs.map S)) (hbn : base ≤ n)
    (hg : (w2.alloc (.cells cs t)).grownBy w3 v.ownBlock) (h3 : w3.ownsRow base 52 2 v' (ls.length + 1) (lineCells ls fvs ++ [.int .i64 num, .slice A fs.length c])) :
    LinesOwn w3 base v' (ls ++ [(num, fs)]) := by
  refine ⟨fvs ++ [.slice A fs.length c], by simp [hl], by rw [lineCells_snoc ls fvs _ _ hl]; simpa using h3, fun i fv l h1 h2 => ?_⟩
  have keep : ∀ {b2 : Nat} {fv : Value} {ss : List (List UInt8)}, w2.ownsRow b2 9 1 fv ss.length (ss.map S) → w3.ownsRow b2 9 1 fv ss.length (ss.map S) := fun h =>
    ownsRow_apart (h.alloc _) (hown.alloc _) (by decide) hg
  rcases Nat.lt_or_ge i ls.length with hi | hi
  · rw [List.getElem?_append_left (by omega)] at h1 h2
    exact keep (ownsRow_below (hf i fv l h1 h2) hb)
  · rw [List.getElem?_append_right (by omega)] at h1 h2
    have hi0 : i - ls.length = 0 := by
      rcases Nat.eq_zero_or_pos (i - ls.length) with h | h
      · exact h
      · rw [List.getElem?_eq_none (by simp; omega)] at h2; cases h2
    rw [hl, hi0] at h1
    rw [hi0] at h2
    simp at h1 h2
    subst h1 h2
    exact ownsRow_base (keep hn) hbn
theorem Tryd.infoLine : (Tryd.prog.info? 52).map (fun i => (i.zero, i.size, i.bytes)) = some (some (.agg #[.int .i64 0, .slice none 0 0]), 2, 32) := by kernel_rfl

/-- Lines in memory of the call's own. -/
def LinesPost2 (w : World) (R : Except (Nat × Nat) (List (Nat × List (List UInt8)))) (e : Ending) (w' : World) : Prop :=
  Below w.heap.size w w' ∧ match R with
    | .ok ls => ∃ base v, e = .returned (.tuple #[v, .int .i64 0, .int .i64 0]) ∧ LinesOwn w' base v ls
    | .error (n, k) => e = .returned (.tuple #[.slice none 0 0, .int .i64 n, .int .i64 k])
end Go.Proofs.YtgjnhefmheefbaaDoor
namespace Go.Proofs.YtgjnhefmheefbaaDoor
open Go.RowKit Fl
attribute [local go_sem] bget

abbrev I (z : Int) : Value := .int .i64 z
theorem drop_all {α : Type} {l : List α} {k : Nat} {p : α → Bool} (h : k < l.length) : (l.drop k).all p = (p l[k] && (l.drop (k + 1)).all p) := by
  rw [List.drop_eq_getElem_cons h, List.all_cons]
/-- The string at place k. -/
theorem Holds.str {w : World} {A : Option Addr} {fs : List (List UInt8)} (h : Holds w A (fs.map S)) {k : Nat} (hk : k < fs.length) : ∃ b o, A = some ⟨b, o, none⟩ ∧ w.cell? ⟨b, o + k, none⟩ = some (S fs[k]) := by
  obtain ⟨b, o, hA, _, hc⟩ := h.at_ (by simp; omega)
  exact ⟨b, o, hA, by rw [hc k (by simpa using hk)]; simp⟩
set_option maxRecDepth 100000 in
set_option maxHeartbeats 1000000 in
theorem areNames_c (A : Option Addr) (c : Nat) (fs : List (List UInt8)) (w : World) (hh : Holds w A (fs.map S)) (hl : fs.length ≤ 8796093021952) (hs : ∀ f ∈ fs, f.length ≤ maxLen) :
    Calls Tryd.prog 24 #[.slice A fs.length c] w fun e w' => e = .returned (.bool (fs.all name)) ∧ w = w' := by
  have HH := Lib.hid hh
  have HS := Lib.hid hs
  clear hh hs
  go_enter Tryd.func24, Tryd.ntmps24
  go_wp2
  go_loop [7] (fun i => ∃ k : Nat, k ≤ fs.length ∧ i = .int .i64 k ∧ Hid (fs.all name = (fs.drop k).all name)) (fun i => fs.length - (intOf i).toNat)
  case atStart => exact ⟨0, Nat.zero_le _, rfl, Lib.hid rfl⟩
  case round =>
    obtain ⟨k, hk, rfl, HA⟩ := hrel
    by_cases hlt : k < fs.length
    · obtain ⟨b, o, rfl, hc⟩ := HH.out.str hlt
      have HN := Lib.hid (fun w => Name_c fs[k] w (HS.out _ (List.getElem_mem hlt)))
      have hd := drop_all (p := name) hlt
      rcases Bool.eq_false_or_eq_true (name fs[k]) with hn | hn
      · have HA2 := Lib.hid (HA.out.trans (hd.trans (by rw [hn, Bool.true_and])))
        rw [hn] at HN
        clear hd HA hn
        generalize fs[k] = s at *
        go_wp2_with (go_at_call 39; refine (HN.out _).mono ?_; rintro e w' ⟨rfl, rfl⟩)
        go_round
        case rel => exact ⟨k + 1, by omega, by go_num, HA2⟩
        case measure => simp [intOf]; omega
      · have HA2 := Lib.hid (HA.out.trans (hd.trans (by rw [hn, Bool.false_and])))
        rw [hn] at HN
        clear hd HA hn
        generalize fs[k] = s at *
        go_wp2_with (go_at_call 39; refine (HN.out _).mono ?_; rintro e w' ⟨rfl, rfl⟩)
        go_ret
        exact ⟨ret_bool HA2.out.symm, rfl⟩
    · have HA2 : Hid (fs.all name = true) := Lib.hid (HA.out.trans (by rw [List.drop_of_length_le (by omega)]; rfl))
      go_wp2
      go_ret
      exact ⟨ret_bool HA2.out.symm, rfl⟩

set_option maxRecDepth 100000 in
set_option maxHeartbeats 1000000 in
theorem allows_c (a1 : Int) (a2 : ByteArray) (n x m k : Int) (b : Bool) (w : World) :
    Calls Tryd.prog 23 #[.agg #[.int .i64 a1, .string a2, .int .i64 n, .int .i64 x, .bool b], .int .i64 m, .int .i64 k] w fun e w' => e = .returned (.bool (decide (k = x) && (decide (m = n) || b && decide (n < m)))) ∧ Below w.heap.size w w' := by
  have hb : ∀ o, Below w.heap.size w (w.alloc o) := fun o => (Below.refl _ _).alloc (Nat.le_refl _) _
  go_enter Tryd.func23, Tryd.ntmps23
  go_wp2
  all_goals go_ret
  all_goals exact ⟨ret_bool (by simp_all), hb _⟩

/-- The numbers of fields, behind those that are read already. -/
def numsA (acc : List Int) : List (List UInt8) → Option (List Int)
  | [] => some acc
  | s :: r => match num s with
    | some z => numsA (acc ++ [z]) r
    | none => none
theorem numsA_end {acc : List Int} {l : List (List UInt8)} {k : Nat} (h : l.length ≤ k) : numsA acc (l.drop k) = some acc := by
  rw [List.drop_of_length_le h]; rfl
theorem numsA_some {acc : List Int} {l : List (List UInt8)} {k : Nat} {z : Int} (h : k < l.length) (hz : num l[k] = some z) : numsA acc (l.drop k) = numsA (acc ++ [z]) (l.drop (k + 1)) := by
  rw [List.drop_eq_getElem_cons h, numsA, hz]
theorem numsA_none {acc : List Int} {l : List (List UInt8)} {k : Nat} (h : k < l.length) (hz : num l[k] = none) : numsA acc (l.drop k) = none := by
  rw [List.drop_eq_getElem_cons h, numsA, hz]
theorem Tryd.infoInt : (Tryd.prog.info? 3).map (fun i => (i.zero, i.size, i.bytes)) = some (some (.int .i64 0), 1, 8) := by kernel_rfl
def NumsPost (w : World) (R : Option (List Int)) (e : Ending) (w' : World) : Prop :=
  Below w.heap.size w w' ∧ match R with
    | some zs => ∃ v, e = .returned (.tuple #[v, .bool true]) ∧ w'.ownsRow w.heap.size 3 1 v zs.length (zs.map I)
    | none => e = .returned (.tuple #[.slice none 0 0, .bool false])
set_option maxRecDepth 100000 in
set_option maxHeartbeats 2000000 in
theorem readNumbers_c (A : Option Addr) (c : Nat) (fs : List (List UInt8)) (w : World) (hh : Holds w A (fs.map S)) (hl : fs.length ≤ 8796093021952) (hs : ∀ f ∈ fs, f.length ≤ 9223372036854775000) :
    Calls Tryd.prog 42 #[.slice A fs.length c] w (NumsPost w (numsA [] fs)) := by
  have HH := Lib.hid hh
  have HS := Lib.hid hs
  clear hh hs
  obtain ⟨i0, hi, hz0, hz1, hz2⟩ := info_parts Tryd.infoInt
  go_enter Tryd.func42, Tryd.ntmps42
  go_wp2_with (refine wpList_make_own _ rfl _ _ 23 rfl w.heap.size 3 i0 (.int .i64 0) 1 Tryd.underlying23 hi hz0 hz1 .i64 .i64 _ fs.length rfl rfl rfl (by rw [hz2]; omega) (by unfold maxLen; omega) (Nat.le_refl _) ?_)
  intro w1 own1 hg1
  have hb1 : Below w.heap.size w w1 := (Below.refl _ _).grown hg1 (Nat.le_refl _) (fun k hk => by cases hk)
  obtain ⟨g, hgg⟩ : ∃ g, g = w.heap.size := ⟨_, rfl⟩
  rw [← hgg] at own1 ⊢
  have HG := Lib.hid hgg
  clear hg1 hgg
  go_wp2
  go_loopw [4, 14] (fun v i wr => ∃ (k : Nat) (zs : List Int), v = .slice (some ⟨g, 0, none⟩) k fs.length ∧ i = .int .i64 k ∧ k ≤ fs.length ∧ zs.length = k ∧ Hid (wr.ownsRow w.heap.size 3 1 (.slice (some ⟨g, 0, none⟩) k fs.length) k (zs.map I)) ∧ Below w.heap.size w wr ∧ Hid (numsA [] fs = numsA zs (fs.drop k))) (fun _ i _ => fs.length - (intOf i).toNat)
  case atStart => exact ⟨0, [], rfl, rfl, Nat.zero_le _, rfl, Lib.hid (ownsRow_base own1 (by have := HG.out; omega)), hb1, Lib.hid rfl⟩
  case round =>
    clear hb1 own1
    obtain ⟨k, zs, rfl, rfl, hk, hzl, HO, hb, HA⟩ := hrel
    by_cases hlt : k < fs.length
    · obtain ⟨b, o, rfl, hc⟩ := (HH.out.keep hb).str hlt
      have HN := Lib.hid (fun w => Number_c fs[k] w (HS.out _ (List.getElem_mem hlt)))
      rcases hn : num fs[k] with _ | z
      · have HA2 := Lib.hid (HA.out.trans (numsA_none hlt hn))
        rw [hn, show ret2 none = .tuple #[.int .i64 0, .bool false] from rfl] at HN
        clear hn
        generalize fs[k] = s at *
        go_wp2_with (go_at_call 50; refine (HN.out _).mono ?_; rintro e w' ⟨rfl, rfl⟩)
        go_ret2
        exact ⟨hb, by rw [HA2.out]; rfl⟩
      · have HA2 := Lib.hid (HA.out.trans (numsA_some hlt hn))
        rw [hn, show ret2 (some z) = .tuple #[.int .i64 z, .bool true] from rfl] at HN
        clear hn HA
        generalize fs[k] = s at *
        go_wp2_with (first | (go_at_call 50; refine (HN.out _).mono ?_; rintro e w' ⟨rfl, rfl⟩) | (at_builtin; go_loud (refine wpList_append_fits _ rfl _ _ 23 rfl w.heap.size 3 i0 1 Tryd.underlying23 hi hz1 g k fs.length (zs.map I) rfl (HO.out.alloc _) ⟨wr.heap.size, 0, none⟩ 1 1 [.int .i64 z] rfl rfl ?c1 ?c2 ?c3 ?_)))
        case c1 =>
          intro j u hu
          rcases j with _ | j
          · simp at hu; subst hu; simp [go_sem]
          · simp at hu
        case c2 => intro u hu; simp at hu; subst hu; rfl
        case c3 => omega
        intro w2 own2 hg2
        have hb2 : Below w.heap.size w w2 := (hb.alloc hb.size _).grown hg2 (by have := hb.size; simp; omega) (fun k hk => by injection hk with hk; have := HG.out; omega)
        have HO2 : Hid (w2.ownsRow w.heap.size 3 1 (.slice (some ⟨g, 0, none⟩) (k + 1) fs.length) (k + 1) ((zs ++ [z]).map I)) := Lib.hid (by simpa using own2)
        clear own2 hg2 HO hb
        go_wp2
        go_roundw
        case rel => exact ⟨k + 1, zs ++ [z], by go_num, by go_num, by omega, by simp; omega, HO2, hb2, HA2⟩
        case measure => simp [intOf]; omega
    · have HA2 := Lib.hid (HA.out.trans (numsA_end (by omega)))
      have HO2 := HO
      go_wp2
      go_ret2
      exact ⟨hb, by rw [HA2.out]; exact ⟨_, rfl, by rw [hzl]; exact HO2.out⟩⟩

def StrsPost (w : World) (fs : List (List UInt8)) (e : Ending) (w' : World) : Prop :=
  Below w.heap.size w w' ∧ ∃ v, e = .returned v ∧ w'.ownsRow w.heap.size 9 1 v fs.length (fs.map S)
set_option maxRecDepth 100000 in
set_option maxHeartbeats 2000000 in
theorem cloneAll_c (A : Option Addr) (c : Nat) (fs : List (List UInt8)) (w : World) (hh : Holds w A (fs.map S)) (hl : fs.length ≤ 8796093021952) (hs : ∀ f ∈ fs, f.length ≤ 100000) :
    Calls Tryd.prog 37 #[.slice A fs.length c] w (StrsPost w fs) := by
  have HH := Lib.hid hh
  have HS := Lib.hid hs
  clear hh hs
  obtain ⟨i0, hi, hz0, hz1, hz2⟩ := info_parts Tryd.infoString
  go_enter Tryd.func37, Tryd.ntmps37
  go_wp2_with (refine wpList_make_own _ rfl _ _ 45 rfl w.heap.size 9 i0 (.string ByteArray.empty) 1 Tryd.underlying45 hi hz0 hz1 .i64 .i64 _ fs.length rfl rfl rfl (by rw [hz2]; omega) (by unfold maxLen; omega) (Nat.le_refl _) ?_)
  intro w1 own1 hg1
  have hb1 : Below w.heap.size w w1 := (Below.refl _ _).grown hg1 (Nat.le_refl _) (fun k hk => by cases hk)
  obtain ⟨g, hgg⟩ : ∃ g, g = w.heap.size := ⟨_, rfl⟩
  rw [← hgg] at own1 ⊢
  have HG := Lib.hid hgg
  clear hg1 hgg
  go_wp2
  go_loopw [3, 11] (fun v i wr => ∃ (k : Nat), v = .slice (some ⟨g, 0, none⟩) k fs.length ∧ i = .int .i64 k ∧ k ≤ fs.length ∧ Hid (wr.ownsRow w.heap.size 9 1 (.slice (some ⟨g, 0, none⟩) k fs.length) k ((fs.take k).map S)) ∧ Below w.heap.size w wr) (fun _ i _ => fs.length - (intOf i).toNat)
  case atStart => exact ⟨0, rfl, rfl, Nat.zero_le _, Lib.hid (ownsRow_base own1 (by have := HG.out; omega)), hb1⟩
  case round =>
    clear hb1 own1
    obtain ⟨k, rfl, rfl, hk, HO, hb⟩ := hrel
    by_cases hlt : k < fs.length
    · obtain ⟨b, o, rfl, hc⟩ := (HH.out.keep hb).str hlt
      have HN := Lib.hid (clone_c fs[k] wr (HS.out _ (List.getElem_mem hlt)))
      have HT := Lib.hid (List.take_succ_eq_append_getElem hlt)
      generalize fs[k] = s at *
      go_wp2_with fail
      refine HN.out.mono ?_
      rintro e w2 ⟨rfl, hb2⟩
      have own2 := ownsRow_below HO.out hb2
      clear HO
      go_wp2_with (at_builtin; refine wpList_append_fits _ rfl _ _ 45 rfl w.heap.size 9 i0 1 Tryd.underlying45 hi hz1 g k fs.length ((fs.take k).map S) rfl (own2.alloc _) ⟨w2.heap.size, 0, none⟩ 1 1 [S s] rfl rfl ?c1 ?c2 ?c3 ?_)
      case c1 =>
        intro j u hu
        rcases j with _ | j
        · simp at hu; subst hu; simp [go_sem]
        · simp at hu
      case c2 => intro u hu; simp at hu; subst hu; rfl
      case c3 => omega
      intro w3 own3 hg3
      have hb3 : Below w.heap.size w w3 := ((hb.trans (hb2.mono hb.size)).alloc (Nat.le_trans hb.size hb2.size) _).grown hg3 (by have := hb.size; have := hb2.size; simp; omega) (fun k hk => by injection hk with hk; have := HG.out; omega)
      have HO3 : Hid (w3.ownsRow w.heap.size 9 1 (.slice (some ⟨g, 0, none⟩) (k + 1) fs.length) (k + 1) ((fs.take (k + 1)).map S)) := Lib.hid (by rw [HT.out]; simpa using own3)
      clear own2 own3 hg3 hb hb2
      go_wp2
      go_roundw
      case rel => exact ⟨k + 1, by go_num, by go_num, by omega, HO3, hb3⟩
      case measure => simp [intOf]; omega
    · have HO2 : Hid (wr.ownsRow w.heap.size 9 1 (.slice (some ⟨g, 0, none⟩) fs.length fs.length) fs.length (fs.map S)) := Lib.hid (by
        have h := HO.out
        rw [show k = fs.length by omega, List.take_length] at h
        exact h)
      obtain rfl : k = fs.length := by omega
      go_wp2
      go_ret
      exact ⟨hb, _, rfl, HO2.out⟩
end Go.Proofs.YtgjnhefmheefbaaDoor
namespace Go.Proofs.YtgjnhefmheefbaaDoor.Fl
open Go

theorem readA_nums : ∀ (r : List (List UInt8)) (ns : List (List UInt8)) (xs : List Int), readA 0 ns xs r = match numsA xs r with | some zs => .ok (ns, zs) | none => .error 7
  | [], ns, xs => rfl
  | s :: r, ns, xs => by
    rw [readA, numsA]
    rcases num s with _ | z
    · rfl
    · exact readA_nums r ns _
theorem readA_names : ∀ (k : Nat) (r : List (List UInt8)) (ns : List (List UInt8)), k ≤ r.length → readA k ns [] r = if (r.take k).all name then (match numsA [] (r.drop k) with | some zs => .ok (ns ++ r.take k, zs) | none => .error 7) else .error 6
  | 0, r, ns, _ => by simp [readA_nums]
  | k + 1, [], ns, h => by simp at h
  | k + 1, s :: r, ns, h => by
    rw [readA]
    by_cases hn : name s = true
    · rw [if_pos hn, readA_names k r (ns ++ [s]) (by simpa using h)]
      simp [hn]
    · rw [if_neg hn]
      simp [hn]
/-- What allows returns for the shape of word k, with m names and all its numbers. -/
def allowed (k : Nat) (m : Int) : Bool := decide (m = shapeN k) || decide (k = 2) && decide ((shapeN k : Int) < m)
theorem allowed_eq {k n : Nat} : allowed k ((n : Int) - shapeX k) = !wrongCount k n := by
  have h2 : k = 2 → shapeN k = 2 ∧ shapeX k = 0 := by rintro rfl; exact ⟨rfl, rfl⟩
  unfold allowed wrongCount
  rw [Bool.eq_iff_iff]
  simp only [Bool.or_eq_true, Bool.and_eq_true, decide_eq_true_eq, Bool.not_eq_true', decide_eq_false_iff_not, not_and, not_or]
  by_cases e : k = 2
  · obtain ⟨e1, e2⟩ := h2 e
    rw [e1, e2]
    omega
  · omega
theorem allowed_none {s : List UInt8} (h : wordOf s ≠ 0) : allowed (wordOf s) (0 - shapeX (wordOf s)) = false := by
  have h6 := wordOf_le s
  generalize wordOf s = k at *
  obtain rfl | rfl | rfl | rfl | rfl | rfl : k = 1 ∨ k = 2 ∨ k = 3 ∨ k = 4 ∨ k = 5 ∨ k = 6 := by omega
  all_goals rfl
theorem parse1_word {n : Int} {s : List UInt8} {r : List (List UInt8)} (h : wordOf s = 0) : parse1 (n, s :: r) = .error 4 := by
  simp [parse1, h]
theorem parse1_count {n : Int} {s : List UInt8} {r : List (List UInt8)} (h : wordOf s ≠ 0) (h2 : allowed (wordOf s) ((r.length : Int) - shapeX (wordOf s)) = false) : parse1 (n, s :: r) = .error 5 := by
  rw [allowed_eq] at h2
  have h3 : wrongCount (wordOf s) r.length = true := by simpa using h2
  simp [parse1, h, h3]
theorem parse1_rest {n : Int} {s : List UInt8} {r : List (List UInt8)} (h : wordOf s ≠ 0) (h2 : allowed (wordOf s) ((r.length : Int) - shapeX (wordOf s)) = true) :
    shapeX (wordOf s) ≤ r.length ∧ parse1 (n, s :: r) = if (r.take (r.length - shapeX (wordOf s))).all name then (match numsA [] (r.drop (r.length - shapeX (wordOf s))) with | some zs => .ok ⟨wordOf s, n, r.take (r.length - shapeX (wordOf s)), zs⟩ | none => .error 7) else .error 6 := by
  rw [allowed_eq] at h2
  have h3 : wrongCount (wordOf s) r.length = false := by simpa using h2
  refine ⟨count_ge h3, ?_⟩
  simp only [parse1, h, h3, if_false, Bool.false_eq_true, readA_names _ r [] (Nat.sub_le _ _)]
  by_cases ha : (r.take (r.length - shapeX (wordOf s))).all name = true
  · simp only [if_pos ha]
    rcases numsA [] (r.drop (r.length - shapeX (wordOf s))) with _ | zs
    · rfl
    · simp
  · simp only [if_neg ha]
end Go.Proofs.YtgjnhefmheefbaaDoor.Fl
