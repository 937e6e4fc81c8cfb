/- Contracts of layout.shapeOfText, layout.shapeOfWord and (layout.shape).allows, over the constant table. -/
import Derived.Test.YtpglhidhghhmoaaDoorLySpec
import Derived.Test.YtpglhidhghhmoaaDoorLySmall
import Derived.Test.YtpglhidhghhmoaaDoorLitTab
import Derived.Test.YtpglhidhghhmoaaDoorScope
namespace Go.Proofs.YtpglhidhghhmoaaDoor
open Go.RowKit Fl
attribute [local go_sem] bget

/-- The shape of a word as a value; the zero shape for 0. -/
def shapeV (n : Nat) : Value := if n = 0 then .agg #[.int .i64 0, .string ByteArray.empty, .int .i64 0, .int .i64 0, .bool false]
  else .agg #[.int .i64 n, S (wordText n), .int .i64 (shapeN n), .int .i64 (shapeX n), .bool (decide (n = 2))]
/-- The cells of the table. -/
def shapeCells : Array Value := #[.int .i64 1, S wBlock, .int .i64 1, .int .i64 2, .bool false, .int .i64 2, S wLane, .int .i64 2, .int .i64 0, .bool true,
  .int .i64 3, S wStation, .int .i64 3, .int .i64 1, .bool false, .int .i64 4, S wDepot, .int .i64 3, .int .i64 1, .bool false,
  .int .i64 5, S wRobot, .int .i64 1, .int .i64 1, .bool false, .int .i64 6, S wConfig, .int .i64 0, .int .i64 4, .bool false]
/-- The table stands in the world. -/
def Shapes (w : World) : Prop := ∃ ty fr, w.heap[0]? = some (.cells shapeCells ty fr)
theorem Shapes.keep {w w' : World} (h : Shapes w) (hb : Below w.heap.size w w') : Shapes w' := by
  obtain ⟨ty, fr, h⟩ := h
  exact ⟨ty, fr, (hb.block _ (block_lt h)).trans h⟩
theorem Tryd.infoShapes : (Tryd.prog.info? 102).map (·.size) = some 30 := by kernel_rfl

/-- The words in their order. -/
def wordsL : List (List UInt8) := [wBlock, wLane, wStation, wDepot, wRobot, wConfig]
theorem wordOf_none {l : List UInt8} (h : ∀ j, j < 6 → wordsL[j]? ≠ some l) : wordOf l = 0 := by
  have h0 := h 0 (by omega)
  have h1 := h 1 (by omega)
  have h2 := h 2 (by omega)
  have h3 := h 3 (by omega)
  have h4 := h 4 (by omega)
  have h5 := h 5 (by omega)
  simp [wordsL] at h0 h1 h2 h3 h4 h5
  unfold wordOf
  simp [Ne.symm h0, Ne.symm h1, Ne.symm h2, Ne.symm h3, Ne.symm h4, Ne.symm h5]
theorem snoc_none {l : List UInt8} {k : Nat} (h : ∀ j, j < k → wordsL[j]? ≠ some l) (h2 : wordsL[k]? ≠ some l) : ∀ j, j < k + 1 → wordsL[j]? ≠ some l := fun j hj => by
  rcases Nat.lt_succ_iff_lt_or_eq.1 hj with h' | rfl
  · exact h j h'
  · exact h2
/-- Row g holds these cells, and is not frozen. -/
theorem row_cells {w : World} {g : Nat} {cs : Array Value} {t : TypeId} (h : w.heap[g]? = some (.cells cs t (0, 0))) (j : Nat) : w.cell? ⟨g, j, none⟩ = cs[j]? := cell_of_row w g j cs t (0, 0) h

abbrev zeroShape : Array Value := #[.int .i64 0, .string ⟨#[]⟩, .int .i64 0, .int .i64 0, .bool false]
set_option maxRecDepth 100000 in
set_option maxHeartbeats 4000000 in
theorem shapeOfText_c (l : List UInt8) (w : World) (hs : l.length ≤ maxLen) (hg : Shapes w) :
    Calls Tryd.prog 38 #[.string ⟨l.toArray⟩] w fun e w' => e = .returned (.tuple #[shapeV (wordOf l), .bool (decide (wordOf l ≠ 0))]) ∧ Below w.heap.size w w' := by
  unfold maxLen at hs
  obtain ⟨ty, fr, hg⟩ := hg
  have hg1 : (w.alloc (.cells zeroShape 77)).heap[0]? = some (.cells shapeCells ty fr) := (heap_alloc_old w _ (block_lt hg)).trans hg
  have hb : Below w.heap.size w (w.alloc (.cells zeroShape 77)) := (Below.refl _ _).alloc (Nat.le_refl _) _
  have hP : (w.alloc (.cells zeroShape 77)).heap[w.heap.size]? = some (.cells zeroShape 77 (0, 0)) := heap_alloc_new w _
  clear hg
  have i0 : ∀ w, (Instr.index 102 (.agg shapeCells) (.int .i64 0)).run Tryd.prog w = .ok (.agg #[.int .i64 1, S wBlock, .int .i64 1, .int .i64 2, .bool false]) w := fun _ => by kernel_rfl
  have i1 : ∀ w, (Instr.index 102 (.agg shapeCells) (.int .i64 1)).run Tryd.prog w = .ok (.agg #[.int .i64 2, S wLane, .int .i64 2, .int .i64 0, .bool true]) w := fun _ => by kernel_rfl
  have i2 : ∀ w, (Instr.index 102 (.agg shapeCells) (.int .i64 2)).run Tryd.prog w = .ok (.agg #[.int .i64 3, S wStation, .int .i64 3, .int .i64 1, .bool false]) w := fun _ => by kernel_rfl
  have i3 : ∀ w, (Instr.index 102 (.agg shapeCells) (.int .i64 3)).run Tryd.prog w = .ok (.agg #[.int .i64 4, S wDepot, .int .i64 3, .int .i64 1, .bool false]) w := fun _ => by kernel_rfl
  have i4 : ∀ w, (Instr.index 102 (.agg shapeCells) (.int .i64 4)).run Tryd.prog w = .ok (.agg #[.int .i64 5, S wRobot, .int .i64 1, .int .i64 1, .bool false]) w := fun _ => by kernel_rfl
  have i5 : ∀ w, (Instr.index 102 (.agg shapeCells) (.int .i64 5)).run Tryd.prog w = .ok (.agg #[.int .i64 6, S wConfig, .int .i64 0, .int .i64 4, .bool false]) w := fun _ => by kernel_rfl
  go_enter Tryd.func38, Tryd.ntmps38
  go_wp2_with (refine wpList_load_row rfl 102 _ rfl 0 rfl ty shapeCells fr _ hg1 Tryd.underlying102 rfl Tryd.infoShapes ?_)
  have hsz : w.heap.size < (w.alloc (.cells zeroShape 77)).heap.size := by simp
  generalize (w.alloc (.cells zeroShape 77)) = w0 at *
  clear hg1
  go_loopw [7] (fun i wr => ∃ k : Nat, i = .int .i64 k ∧ k ≤ 6 ∧ Hid (∀ j, j < k → wordsL[j]? ≠ some l) ∧ Below w.heap.size w wr ∧ Hid (wr.heap[w.heap.size]? = some (.cells zeroShape 77 (0, 0)))) (fun i _ => 6 - (intOf i).toNat)
  case atStart => exact ⟨0, rfl, by omega, Lib.hid (fun j hj => by omega), hb, Lib.hid hP⟩
  case round =>
    clear hb hP hsz
    obtain ⟨k, rfl, hk, HW, hb, HP⟩ := hrel
    by_cases hk6 : k = 6
    · subst hk6
      have H0 := Lib.hid (wordOf_none HW.out)
      clear i0 i1 i2 i3 i4 i5 HW
      go_wp2_with (refine wpList_store_row rfl 77 _ _ rfl w.heap.size zeroShape rfl rfl 77 zeroShape HP.out (by kernel_rfl) rfl (by kernel_rfl) ?_)
      refine bodyPost_ret (results_cell_tmp rfl _ _ w.heap.size 77 _ (0, 0) _ rfl (setRow_heap _ _ _ _ _ _ HP.out) Tryd.underlying77 rfl (by kernel_rfl)) rfl ?_
      exact ⟨by rw [H0.out]; rfl, below_setRow hb (Nat.le_refl _) _⟩
    · have hP1 : ∀ o, (wr.alloc o).heap[w.heap.size]? = some (.cells zeroShape 77 (0, 0)) := fun o => (heap_alloc_old _ _ (block_lt HP.out)).trans HP.out
      have HP1 := Lib.hid hP1
      have hsz := block_lt HP.out
      have HW1 := Lib.hid (fun (h : wordsL[k]? ≠ some l) => snoc_none HW.out h)
      have hk7 : k < 6 := by omega
      clear hP1 HW hk hk6
      obtain rfl | rfl | rfl | rfl | rfl | rfl : k = 0 ∨ k = 1 ∨ k = 2 ∨ k = 3 ∨ k = 4 ∨ k = 5 := by omega
      · by_cases h : wBlock = l
        · subst h
          clear i1 i2 i3 i4 i5 HW1
          go_wp2_with (refine wpList_store_row rfl 77 _ _ rfl w.heap.size _ rfl rfl 77 zeroShape (HP1.out _) (by kernel_rfl) rfl (by kernel_rfl) ?_)
          refine bodyPost_ret (results_cell_tmp rfl _ _ w.heap.size 77 _ (0, 0) _ rfl (setRow_heap _ _ _ _ _ _ (HP1.out _)) Tryd.underlying77 rfl (by kernel_rfl)) rfl ?_
          exact ⟨rfl, below_setRow (hb.alloc (Nat.le_of_lt hsz) _) (Nat.le_refl _) _⟩
        · have hne := beq_no h
          have HW2 := Lib.hid (HW1.out (by simpa [wordsL] using h))
          clear i1 i2 i3 i4 i5 h HW1
          go_wp2
          go_roundw
          case rel => exact ⟨1, by go_num, by omega, HW2, hb.alloc (Nat.le_of_lt hsz) _, Lib.hid (HP1.out _)⟩
          case measure => simp [intOf]
      · by_cases h : wLane = l
        · subst h
          clear i0 i2 i3 i4 i5 HW1
          go_wp2_with (refine wpList_store_row rfl 77 _ _ rfl w.heap.size _ rfl rfl 77 zeroShape (HP1.out _) (by kernel_rfl) rfl (by kernel_rfl) ?_)
          refine bodyPost_ret (results_cell_tmp rfl _ _ w.heap.size 77 _ (0, 0) _ rfl (setRow_heap _ _ _ _ _ _ (HP1.out _)) Tryd.underlying77 rfl (by kernel_rfl)) rfl ?_
          exact ⟨rfl, below_setRow (hb.alloc (Nat.le_of_lt hsz) _) (Nat.le_refl _) _⟩
        · have hne := beq_no h
          have HW2 := Lib.hid (HW1.out (by simpa [wordsL] using h))
          clear i0 i2 i3 i4 i5 h HW1
          go_wp2
          go_roundw
          case rel => exact ⟨2, by go_num, by omega, HW2, hb.alloc (Nat.le_of_lt hsz) _, Lib.hid (HP1.out _)⟩
          case measure => simp [intOf]
      · by_cases h : wStation = l
        · subst h
          clear i0 i1 i3 i4 i5 HW1
          go_wp2_with (refine wpList_store_row rfl 77 _ _ rfl w.heap.size _ rfl rfl 77 zeroShape (HP1.out _) (by kernel_rfl) rfl (by kernel_rfl) ?_)
          refine bodyPost_ret (results_cell_tmp rfl _ _ w.heap.size 77 _ (0, 0) _ rfl (setRow_heap _ _ _ _ _ _ (HP1.out _)) Tryd.underlying77 rfl (by kernel_rfl)) rfl ?_
          exact ⟨rfl, below_setRow (hb.alloc (Nat.le_of_lt hsz) _) (Nat.le_refl _) _⟩
        · have hne := beq_no h
          have HW2 := Lib.hid (HW1.out (by simpa [wordsL] using h))
          clear i0 i1 i3 i4 i5 h HW1
          go_wp2
          go_roundw
          case rel => exact ⟨3, by go_num, by omega, HW2, hb.alloc (Nat.le_of_lt hsz) _, Lib.hid (HP1.out _)⟩
          case measure => simp [intOf]
      · by_cases h : wDepot = l
        · subst h
          clear i0 i1 i2 i4 i5 HW1
          go_wp2_with (refine wpList_store_row rfl 77 _ _ rfl w.heap.size _ rfl rfl 77 zeroShape (HP1.out _) (by kernel_rfl) rfl (by kernel_rfl) ?_)
          refine bodyPost_ret (results_cell_tmp rfl _ _ w.heap.size 77 _ (0, 0) _ rfl (setRow_heap _ _ _ _ _ _ (HP1.out _)) Tryd.underlying77 rfl (by kernel_rfl)) rfl ?_
          exact ⟨rfl, below_setRow (hb.alloc (Nat.le_of_lt hsz) _) (Nat.le_refl _) _⟩
        · have hne := beq_no h
          have HW2 := Lib.hid (HW1.out (by simpa [wordsL] using h))
          clear i0 i1 i2 i4 i5 h HW1
          go_wp2
          go_roundw
          case rel => exact ⟨4, by go_num, by omega, HW2, hb.alloc (Nat.le_of_lt hsz) _, Lib.hid (HP1.out _)⟩
          case measure => simp [intOf]
      · by_cases h : wRobot = l
        · subst h
          clear i0 i1 i2 i3 i5 HW1
          go_wp2_with (refine wpList_store_row rfl 77 _ _ rfl w.heap.size _ rfl rfl 77 zeroShape (HP1.out _) (by kernel_rfl) rfl (by kernel_rfl) ?_)
          refine bodyPost_ret (results_cell_tmp rfl _ _ w.heap.size 77 _ (0, 0) _ rfl (setRow_heap _ _ _ _ _ _ (HP1.out _)) Tryd.underlying77 rfl (by kernel_rfl)) rfl ?_
          exact ⟨rfl, below_setRow (hb.alloc (Nat.le_of_lt hsz) _) (Nat.le_refl _) _⟩
        · have hne := beq_no h
          have HW2 := Lib.hid (HW1.out (by simpa [wordsL] using h))
          clear i0 i1 i2 i3 i5 h HW1
          go_wp2
          go_roundw
          case rel => exact ⟨5, by go_num, by omega, HW2, hb.alloc (Nat.le_of_lt hsz) _, Lib.hid (HP1.out _)⟩
          case measure => simp [intOf]
      · by_cases h : wConfig = l
        · subst h
          clear i0 i1 i2 i3 i4 HW1
          go_wp2_with (refine wpList_store_row rfl 77 _ _ rfl w.heap.size _ rfl rfl 77 zeroShape (HP1.out _) (by kernel_rfl) rfl (by kernel_rfl) ?_)
          refine bodyPost_ret (results_cell_tmp rfl _ _ w.heap.size 77 _ (0, 0) _ rfl (setRow_heap _ _ _ _ _ _ (HP1.out _)) Tryd.underlying77 rfl (by kernel_rfl)) rfl ?_
          exact ⟨rfl, below_setRow (hb.alloc (Nat.le_of_lt hsz) _) (Nat.le_refl _) _⟩
        · have hne := beq_no h
          have HW2 := Lib.hid (HW1.out (by simpa [wordsL] using h))
          clear i0 i1 i2 i3 i4 h HW1
          go_wp2
          go_roundw
          case rel => exact ⟨6, by go_num, by omega, HW2, hb.alloc (Nat.le_of_lt hsz) _, Lib.hid (HP1.out _)⟩
          case measure => simp [intOf]
/-- The number of a word, if it is one; else 0. -/
def wordN (n : Int) : Nat := if 1 ≤ n ∧ n ≤ 6 then n.toNat else 0
theorem wordN_none {n : Int} (h : ∀ j : Nat, j < 6 → n ≠ (j : Int) + 1) : wordN n = 0 := by
  unfold wordN
  rw [if_neg]
  rintro ⟨h1, h2⟩
  exact h (n - 1).toNat (by omega) (by omega)
theorem snocN {n : Int} {k : Nat} (h : ∀ j : Nat, j < k → n ≠ (j : Int) + 1) (h2 : n ≠ (k : Int) + 1) : ∀ j : Nat, j < k + 1 → n ≠ (j : Int) + 1 := fun j hj => by
  rcases Nat.lt_succ_iff_lt_or_eq.1 hj with h' | rfl
  · exact h j h'
  · exact h2
set_option maxRecDepth 100000 in
set_option maxHeartbeats 4000000 in
theorem shapeOfWord_c (n : Int) (w : World) (hg : Shapes w) :
    Calls Tryd.prog 29 #[.int .i64 n] w fun e w' => e = .returned (.tuple #[shapeV (wordN n), .bool (decide (wordN n ≠ 0))]) ∧ Below w.heap.size w w' := by
  obtain ⟨ty, fr, hg⟩ := hg
  have hg1 : (w.alloc (.cells zeroShape 77)).heap[0]? = some (.cells shapeCells ty fr) := (heap_alloc_old w _ (block_lt hg)).trans hg
  have hb : Below w.heap.size w (w.alloc (.cells zeroShape 77)) := (Below.refl _ _).alloc (Nat.le_refl _) _
  have hP : (w.alloc (.cells zeroShape 77)).heap[w.heap.size]? = some (.cells zeroShape 77 (0, 0)) := heap_alloc_new w _
  clear hg
  have i0 : ∀ w, (Instr.index 102 (.agg shapeCells) (.int .i64 0)).run Tryd.prog w = .ok (.agg #[.int .i64 1, S wBlock, .int .i64 1, .int .i64 2, .bool false]) w := fun _ => by kernel_rfl
  have i1 : ∀ w, (Instr.index 102 (.agg shapeCells) (.int .i64 1)).run Tryd.prog w = .ok (.agg #[.int .i64 2, S wLane, .int .i64 2, .int .i64 0, .bool true]) w := fun _ => by kernel_rfl
  have i2 : ∀ w, (Instr.index 102 (.agg shapeCells) (.int .i64 2)).run Tryd.prog w = .ok (.agg #[.int .i64 3, S wStation, .int .i64 3, .int .i64 1, .bool false]) w := fun _ => by kernel_rfl
  have i3 : ∀ w, (Instr.index 102 (.agg shapeCells) (.int .i64 3)).run Tryd.prog w = .ok (.agg #[.int .i64 4, S wDepot, .int .i64 3, .int .i64 1, .bool false]) w := fun _ => by kernel_rfl
  have i4 : ∀ w, (Instr.index 102 (.agg shapeCells) (.int .i64 4)).run Tryd.prog w = .ok (.agg #[.int .i64 5, S wRobot, .int .i64 1, .int .i64 1, .bool false]) w := fun _ => by kernel_rfl
  have i5 : ∀ w, (Instr.index 102 (.agg shapeCells) (.int .i64 5)).run Tryd.prog w = .ok (.agg #[.int .i64 6, S wConfig, .int .i64 0, .int .i64 4, .bool false]) w := fun _ => by kernel_rfl
  go_enter Tryd.func29, Tryd.ntmps29
  go_wp2_with (refine wpList_load_row rfl 102 _ rfl 0 rfl ty shapeCells fr _ hg1 Tryd.underlying102 rfl Tryd.infoShapes ?_)
  have hsz : w.heap.size < (w.alloc (.cells zeroShape 77)).heap.size := by simp
  generalize (w.alloc (.cells zeroShape 77)) = w0 at *
  clear hg1
  go_loopw [7] (fun i wr => ∃ k : Nat, i = .int .i64 k ∧ k ≤ 6 ∧ Hid (∀ j : Nat, j < k → n ≠ (j : Int) + 1) ∧ Below w.heap.size w wr ∧ Hid (wr.heap[w.heap.size]? = some (.cells zeroShape 77 (0, 0)))) (fun i _ => 6 - (intOf i).toNat)
  case atStart => exact ⟨0, rfl, by omega, Lib.hid (fun j hj => by omega), hb, Lib.hid hP⟩
  case round =>
    clear hb hP hsz
    obtain ⟨k, rfl, hk, HW, hb, HP⟩ := hrel
    by_cases hk6 : k = 6
    · subst hk6
      have H0 := Lib.hid (wordN_none HW.out)
      clear i0 i1 i2 i3 i4 i5 HW
      go_wp2_with (refine wpList_store_row rfl 77 _ _ rfl w.heap.size zeroShape rfl rfl 77 zeroShape HP.out (by kernel_rfl) rfl (by kernel_rfl) ?_)
      refine bodyPost_ret (results_cell_tmp rfl _ _ w.heap.size 77 _ (0, 0) _ rfl (setRow_heap _ _ _ _ _ _ HP.out) Tryd.underlying77 rfl (by kernel_rfl)) rfl ?_
      exact ⟨by rw [H0.out]; rfl, below_setRow hb (Nat.le_refl _) _⟩
    · have hP1 : ∀ o, (wr.alloc o).heap[w.heap.size]? = some (.cells zeroShape 77 (0, 0)) := fun o => (heap_alloc_old _ _ (block_lt HP.out)).trans HP.out
      have HP1 := Lib.hid hP1
      have hsz := block_lt HP.out
      have HW1 := Lib.hid (fun (h : n ≠ (k : Int) + 1) => snocN HW.out h)
      have hk7 : k < 6 := by omega
      clear hP1 HW hk hk6
      obtain rfl | rfl | rfl | rfl | rfl | rfl : k = 0 ∨ k = 1 ∨ k = 2 ∨ k = 3 ∨ k = 4 ∨ k = 5 := by omega
      · by_cases h : n = 1
        · subst h
          clear i1 i2 i3 i4 i5 HW1
          go_wp2_with (refine wpList_store_row rfl 77 _ _ rfl w.heap.size _ rfl rfl 77 zeroShape (HP1.out _) (by kernel_rfl) rfl (by kernel_rfl) ?_)
          refine bodyPost_ret (results_cell_tmp rfl _ _ w.heap.size 77 _ (0, 0) _ rfl (setRow_heap _ _ _ _ _ _ (HP1.out _)) Tryd.underlying77 rfl (by kernel_rfl)) rfl ?_
          exact ⟨rfl, below_setRow (hb.alloc (Nat.le_of_lt hsz) _) (Nat.le_refl _) _⟩
        · have hne : ((1 : Int) == n) = false := by rw [beq_eq_false_iff_ne]; omega
          have HW2 := Lib.hid (HW1.out (by simpa using h))
          clear i1 i2 i3 i4 i5 h HW1
          go_wp2
          go_roundw
          case rel => exact ⟨1, by go_num, by omega, HW2, hb.alloc (Nat.le_of_lt hsz) _, Lib.hid (HP1.out _)⟩
          case measure => simp [intOf]
      · by_cases h : n = 2
        · subst h
          clear i0 i2 i3 i4 i5 HW1
          go_wp2_with (refine wpList_store_row rfl 77 _ _ rfl w.heap.size _ rfl rfl 77 zeroShape (HP1.out _) (by kernel_rfl) rfl (by kernel_rfl) ?_)
          refine bodyPost_ret (results_cell_tmp rfl _ _ w.heap.size 77 _ (0, 0) _ rfl (setRow_heap _ _ _ _ _ _ (HP1.out _)) Tryd.underlying77 rfl (by kernel_rfl)) rfl ?_
          exact ⟨rfl, below_setRow (hb.alloc (Nat.le_of_lt hsz) _) (Nat.le_refl _) _⟩
        · have hne : ((2 : Int) == n) = false := by rw [beq_eq_false_iff_ne]; omega
          have HW2 := Lib.hid (HW1.out (by simpa using h))
          clear i0 i2 i3 i4 i5 h HW1
          go_wp2
          go_roundw
          case rel => exact ⟨2, by go_num, by omega, HW2, hb.alloc (Nat.le_of_lt hsz) _, Lib.hid (HP1.out _)⟩
          case measure => simp [intOf]
      · by_cases h : n = 3
        · subst h
          clear i0 i1 i3 i4 i5 HW1
          go_wp2_with (refine wpList_store_row rfl 77 _ _ rfl w.heap.size _ rfl rfl 77 zeroShape (HP1.out _) (by kernel_rfl) rfl (by kernel_rfl) ?_)
          refine bodyPost_ret (results_cell_tmp rfl _ _ w.heap.size 77 _ (0, 0) _ rfl (setRow_heap _ _ _ _ _ _ (HP1.out _)) Tryd.underlying77 rfl (by kernel_rfl)) rfl ?_
          exact ⟨rfl, below_setRow (hb.alloc (Nat.le_of_lt hsz) _) (Nat.le_refl _) _⟩
        · have hne : ((3 : Int) == n) = false := by rw [beq_eq_false_iff_ne]; omega
          have HW2 := Lib.hid (HW1.out (by simpa using h))
          clear i0 i1 i3 i4 i5 h HW1
          go_wp2
          go_roundw
          case rel => exact ⟨3, by go_num, by omega, HW2, hb.alloc (Nat.le_of_lt hsz) _, Lib.hid (HP1.out _)⟩
          case measure => simp [intOf]
      · by_cases h : n = 4
        · subst h
          clear i0 i1 i2 i4 i5 HW1
          go_wp2_with (refine wpList_store_row rfl 77 _ _ rfl w.heap.size _ rfl rfl 77 zeroShape (HP1.out _) (by kernel_rfl) rfl (by kernel_rfl) ?_)
          refine bodyPost_ret (results_cell_tmp rfl _ _ w.heap.size 77 _ (0, 0) _ rfl (setRow_heap _ _ _ _ _ _ (HP1.out _)) Tryd.underlying77 rfl (by kernel_rfl)) rfl ?_
          exact ⟨rfl, below_setRow (hb.alloc (Nat.le_of_lt hsz) _) (Nat.le_refl _) _⟩
        · have hne : ((4 : Int) == n) = false := by rw [beq_eq_false_iff_ne]; omega
          have HW2 := Lib.hid (HW1.out (by simpa using h))
          clear i0 i1 i2 i4 i5 h HW1
          go_wp2
          go_roundw
          case rel => exact ⟨4, by go_num, by omega, HW2, hb.alloc (Nat.le_of_lt hsz) _, Lib.hid (HP1.out _)⟩
          case measure => simp [intOf]
      · by_cases h : n = 5
        · subst h
          clear i0 i1 i2 i3 i5 HW1
          go_wp2_with (refine wpList_store_row rfl 77 _ _ rfl w.heap.size _ rfl rfl 77 zeroShape (HP1.out _) (by kernel_rfl) rfl (by kernel_rfl) ?_)
          refine bodyPost_ret (results_cell_tmp rfl _ _ w.heap.size 77 _ (0, 0) _ rfl (setRow_heap _ _ _ _ _ _ (HP1.out _)) Tryd.underlying77 rfl (by kernel_rfl)) rfl ?_
          exact ⟨rfl, below_setRow (hb.alloc (Nat.le_of_lt hsz) _) (Nat.le_refl _) _⟩
        · have hne : ((5 : Int) == n) = false := by rw [beq_eq_false_iff_ne]; omega
          have HW2 := Lib.hid (HW1.out (by simpa using h))
          clear i0 i1 i2 i3 i5 h HW1
          go_wp2
          go_roundw
          case rel => exact ⟨5, by go_num, by omega, HW2, hb.alloc (Nat.le_of_lt hsz) _, Lib.hid (HP1.out _)⟩
          case measure => simp [intOf]
      · by_cases h : n = 6
        · subst h
          clear i0 i1 i2 i3 i4 HW1
          go_wp2_with (refine wpList_store_row rfl 77 _ _ rfl w.heap.size _ rfl rfl 77 zeroShape (HP1.out _) (by kernel_rfl) rfl (by kernel_rfl) ?_)
          refine bodyPost_ret (results_cell_tmp rfl _ _ w.heap.size 77 _ (0, 0) _ rfl (setRow_heap _ _ _ _ _ _ (HP1.out _)) Tryd.underlying77 rfl (by kernel_rfl)) rfl ?_
          exact ⟨rfl, below_setRow (hb.alloc (Nat.le_of_lt hsz) _) (Nat.le_refl _) _⟩
        · have hne : ((6 : Int) == n) = false := by rw [beq_eq_false_iff_ne]; omega
          have HW2 := Lib.hid (HW1.out (by simpa using h))
          clear i0 i1 i2 i3 i4 h HW1
          go_wp2
          go_roundw
          case rel => exact ⟨6, by go_num, by omega, HW2, hb.alloc (Nat.le_of_lt hsz) _, Lib.hid (HP1.out _)⟩
          case measure => simp [intOf]
end Go.Proofs.YtpglhidhghhmoaaDoor
