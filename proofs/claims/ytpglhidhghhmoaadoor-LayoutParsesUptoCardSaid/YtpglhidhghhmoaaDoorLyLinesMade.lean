/- Contract of the statements' lines of layer 2: it returns the lines of the tape. -/
import Derived.Test.YtpglhidhghhmoaaDoorLyMadeSpec
import Derived.Test.YtpglhidhghhmoaaDoorFdLinesMade
import Derived.Deep.RegionHeld3
import Derived.Deep.AppendLies
import Derived.Deep.DrawnRows
import Derived.Deep.DeepCutAuto
namespace Go.Proofs.YtpglhidhghhmoaaDoor
open Go.RowKit Fl
attribute [local go_sem] bget
attribute [local go_sem ↓] Go.wp_at_zero Go.wp_at_succ

/-- The constant lists of the maker in memory. -/
structure MCells (W : World) (g1 g2 g3 g4 : Nat) : Prop where
  words : ∀ i, i < 7 → W.cell? ⟨g1, i, none⟩ = some (S (mWord i))
  parts : ∀ i, i < 10 → W.cell? ⟨g2, i, none⟩ = some (S (mPart i))
  names : ∀ i, i < 7 → W.cell? ⟨g3, i, none⟩ = some (.int .i64 (mNameN i))
  nums : ∀ i, i < 7 → W.cell? ⟨g4, i, none⟩ = some (.int .i64 (mNumN i))
theorem MCells.kept {w w' : World} {g1 g2 g3 g4 g U : Nat} (h : MCells w g1 g2 g3 g4) (hk : Kept g U w w') (h1 : g1 < U ∧ g1 ≠ g) (h2 : g2 < U ∧ g2 ≠ g) (h3 : g3 < U ∧ g3 ≠ g) (h4 : g4 < U ∧ g4 ≠ g) : MCells w' g1 g2 g3 g4 := by
  have key : ∀ b i, b < U → b ≠ g → w'.cell? ⟨b, i, none⟩ = w.cell? ⟨b, i, none⟩ := fun b i hb hg => World.cell?_of_block (w := w) (a := ⟨b, i, none⟩) (hk.block b hb hg)
  exact ⟨fun i hi => (key _ _ h1.1 h1.2).trans (h.words i hi), fun i hi => (key _ _ h2.1 h2.2).trans (h.parts i hi), fun i hi => (key _ _ h3.1 h3.2).trans (h.names i hi), fun i hi => (key _ _ h4.1 h4.2).trans (h.nums i hi)⟩
theorem lt7 {p : Nat → Prop} (h : p 0 ∧ p 1 ∧ p 2 ∧ p 3 ∧ p 4 ∧ p 5 ∧ p 6) : ∀ i, i < 7 → p i := fun i hi => by
  obtain ⟨h0, h1, h2, h3, h4, h5, h6⟩ := h
  obtain rfl | rfl | rfl | rfl | rfl | rfl | rfl : i = 0 ∨ i = 1 ∨ i = 2 ∨ i = 3 ∨ i = 4 ∨ i = 5 ∨ i = 6 := by omega
  all_goals assumption
theorem lt10 {p : Nat → Prop} (h : p 0 ∧ p 1 ∧ p 2 ∧ p 3 ∧ p 4 ∧ p 5 ∧ p 6 ∧ p 7 ∧ p 8 ∧ p 9) : ∀ i, i < 10 → p i := fun i hi => by
  obtain ⟨h0, h1, h2, h3, h4, h5, h6, h7, h8, h9⟩ := h
  obtain rfl | rfl | rfl | rfl | rfl | rfl | rfl | rfl | rfl | rfl : i = 0 ∨ i = 1 ∨ i = 2 ∨ i = 3 ∨ i = 4 ∨ i = 5 ∨ i = 6 ∨ i = 7 ∨ i = 8 ∨ i = 9 := by omega
  all_goals assumption
abbrev oWords : Obj := .cells #[S wBlock, S wLane, S wStation, S wDepot, S wRobot, S wConfig, S [98, 108, 111, 99, 107, 115]] 9
abbrev oParts : Obj := .cells #[S [97], S [98, 49], S [99, 45, 100], S [49], S [48], S [45, 55], S [57, 57, 57, 57], S [49, 48, 48, 48, 48], S [48, 49], S [120, 33]] 9
abbrev oNames : Obj := .cells #[.int .i64 1, .int .i64 2, .int .i64 3, .int .i64 3, .int .i64 1, .int .i64 0, .int .i64 1] 3
abbrev oNums : Obj := .cells #[.int .i64 2, .int .i64 0, .int .i64 1, .int .i64 1, .int .i64 1, .int .i64 4, .int .i64 1] 3
theorem mcells_new (W : World) : MCells ((((W.alloc oWords).alloc oParts).alloc oNames).alloc oNums) W.heap.size (W.heap.size + 1) (W.heap.size + 1 + 1) (W.heap.size + 1 + 1 + 1) := by
  have b1 : ((((W.alloc oWords).alloc oParts).alloc oNames).alloc oNums).heap[W.heap.size]? = some oWords := by
    rw [heap_alloc_old _ _ (by simp; omega), heap_alloc_old _ _ (by simp; omega), heap_alloc_old _ _ (by simp)]; exact heap_alloc_new W _
  have b2 : ((((W.alloc oWords).alloc oParts).alloc oNames).alloc oNums).heap[W.heap.size + 1]? = some oParts := by
    rw [heap_alloc_old _ _ (by simp), heap_alloc_old _ _ (by simp)]; exact heap_alloc2_new W _ _
  have b3 : ((((W.alloc oWords).alloc oParts).alloc oNames).alloc oNums).heap[W.heap.size + 1 + 1]? = some oNames := by
    rw [heap_alloc_old _ _ (by simp)]; have := heap_alloc2_new (W.alloc oWords) oParts oNames; simpa using this
  have b4 : ((((W.alloc oWords).alloc oParts).alloc oNames).alloc oNums).heap[W.heap.size + 1 + 1 + 1]? = some oNums := by
    have := heap_alloc2_new ((W.alloc oWords).alloc oParts) oNames oNums; simpa using this
  refine ⟨lt7 ?_, lt10 ?_, lt7 ?_, lt7 ?_⟩
  · simp only [cell_of_row _ _ _ _ _ _ b1]; exact ⟨rfl, rfl, rfl, rfl, rfl, rfl, rfl⟩
  · simp only [cell_of_row _ _ _ _ _ _ b2]; exact ⟨rfl, rfl, rfl, rfl, rfl, rfl, rfl, rfl, rfl, rfl⟩
  · simp only [cell_of_row _ _ _ _ _ _ b3]; exact ⟨rfl, rfl, rfl, rfl, rfl, rfl, rfl⟩
  · simp only [cell_of_row _ _ _ _ _ _ b4]; exact ⟨rfl, rfl, rfl, rfl, rfl, rfl, rfl⟩

/-- The tape's next number, called in a world that has grown since wc. -/
theorem nextKept_c {wc W : World} (B g k n : Nat) (zs : List Int) (ht : TapeAt wc B g zs k) (hb : Below wc.heap.size wc W) (hT : k ≤ 1000000000) (h1 : 1 ≤ n) (hn : n ≤ 1000000) :
    Calls Tryd.prog 19 #[.pointer (some ⟨g, 0, none⟩), .int .i64 n] W fun e w' => e = .returned (.int .i64 (tapeN zs k n)) ∧ TapeAt w' B g zs (k + 1) ∧ Kept g wc.heap.size wc w' ∧ Kept g W.heap.size W w' :=
  (nextIs_c B g k n zs W (ht.keep hb) hT h1 hn).mono fun e w' ⟨he, h2, h3⟩ =>
    ⟨he, h2, (Kept.of_below hb).trans (Kept.of_grown h3 hb.size (fun j hj => by injection hj with hj; omega)), Kept.of_grown h3 (Nat.le_refl _) (fun j hj => by injection hj with hj; omega)⟩
theorem Kept.cell {g U : Nat} {w w' : World} (h : Kept g U w w') {b i : Nat} (hb : b < U) (hg : b ≠ g) : w'.cell? ⟨b, i, none⟩ = w.cell? ⟨b, i, none⟩ := World.cell?_of_block (w := w) (a := ⟨b, i, none⟩) (h.block b hb hg)
theorem alloc_heap (w : World) (o : Obj) : (w.alloc o).heap = w.heap.push o := rfl
abbrev zeroLine : Obj := .cells #[.int .i64 0, .slice none 0 0] 58
theorem row2_c {w : World} {X : Nat} {a b : Value} {t : TypeId} (h : w.heap[X]? = some (.cells #[a, b] t (0, 0))) : w.cell? ⟨X, 0, none⟩ = some a ∧ w.cell? ⟨X, 1, none⟩ = some b ∧ w.frozen? ⟨X, 0, none⟩ = false ∧ w.frozen? ⟨X, 1, none⟩ = false :=
  ⟨by rw [cell_of_row w X 0 _ _ _ h]; rfl, by rw [cell_of_row w X 1 _ _ _ h]; rfl, by simp [World.frozen?, h], by simp [World.frozen?, h]⟩

theorem set2_row {W : World} {g : Nat} {a0 a1 v0 v1 : Value} {t : TypeId} (h : W.heap[g]? = some (.cells #[a0, a1] t (0, 0))) : (W.setCell ⟨g, 0, none⟩ v0).setCell ⟨g, 1, none⟩ v1 = W.setRow g #[v0, v1] := by
  rw [setCell_eq_setRow W g 0 _ t (0, 0) v0 h]
  have h1 := setRow_heap W g _ (#[a0, a1].setIfInBounds 0 v0) t (0, 0) h
  rw [setCell_eq_setRow _ g 1 _ t (0, 0) v1 h1, setRow_setRow]
  rfl
theorem grownRow (W : World) (g : Nat) (cs : Array Value) : W.grownBy (W.setRow g cs) (some g) :=
  ⟨rfl, rfl, rfl, by simp, fun k _ hne => setRow_other W g k cs (fun e => hne (by rw [e]))⟩
/-- In the midst of a line's making: its row X and its fields' row F, since world wr. -/
def Mid (wr wx : World) (B : Nat) (xr fr : Obj) (zs : List Int) (kk X F : Nat) : Prop :=
  wx.heap[X]? = some xr ∧ wx.heap[F]? = some fr ∧ wr.heap.size ≤ F ∧ wr.heap.size ≤ X ∧ TapeAt wx B B zs kk ∧ Kept B wr.heap.size wr wx
section
variable {wr w9 : World} {B kk : Nat} {zs : List Int} {fr : Obj}
theorem Kept.more {g U : Nat} {a b : World} (h : Kept g U a b) (hU : U ≤ a.heap.size) (o : Obj) : Kept g U a (b.alloc o) := h.trans (Kept.of_below ((Below.refl _ _).alloc (by have := h.size; omega) _))
theorem Kept.row {g U X : Nat} {a b : World} (h : Kept g U a b) (hU : U ≤ a.heap.size) (hX : U ≤ X) (cs : Array Value) : Kept g U a (b.setRow X cs) :=
  h.trans (Kept.of_grown (grownRow b X cs) (by have := h.size; omega) (fun k hk => .inr (by injection hk with hk; omega)))
theorem TapeAt.alloc {w : World} {B g k : Nat} {zs : List Int} (h : TapeAt w B g zs k) (o : Obj) : TapeAt (w.alloc o) B g zs k := h.keep ((Below.refl _ _).alloc (Nat.le_refl _) _)
theorem TapeAt.row {w : World} {B g k X : Nat} {zs : List Int} (h : TapeAt w B g zs k) (hX : X ≠ g) (hB : B ≤ X) (cs : Array Value) : TapeAt (w.setRow X cs) B g zs k :=
  h.grown (grownRow w X cs) (fun e => hX (by injection e)) (fun b hb => by injection hb with hb; omega)
theorem own_set {w : World} {base g n cap i : Nat} {e : TypeId} {xs : List Value} {v : Value} (h : w.ownsRow base e 1 (.slice (some ⟨g, 0, none⟩) n cap) n xs) (hi : i < n) : (w.setCell ⟨g, i, none⟩ v).ownsRow base e 1 (.slice (some ⟨g, 0, none⟩) n cap) n (xs.set i v) := by
  have _ := hi
  obtain ⟨h1, h2⟩ := h
  rcases h2 with ⟨hv, _⟩ | ⟨g', cap', cur, hv, hg, hh, hnc, hcm, hcs, hx⟩
  · cases hv
  · injection hv with hA _ hc
    injection hA with hA
    injection hA with hA
    subst hA hc
    refine ⟨by simpa using h1, .inr ⟨g, cap, cur.setIfInBounds i v, rfl, hg, ?_, hnc, hcm, by simpa using hcs, ?_⟩⟩
    · simp [World.setCell, Array.getElem?_modify]
      exact ⟨_, hh, by simp⟩
    · rw [← hx]; simp [List.take_set]
theorem own_pos {w : World} {base n : Nat} {e : TypeId} {xs : List Value} {v : Value} (h : w.ownsRow base e 1 v n xs) (hn : 0 < n) : ∃ g cap, v = .slice (some ⟨g, 0, none⟩) n cap ∧ base ≤ g ∧ n ≤ cap := by
  obtain ⟨h1, h2⟩ := h
  rcases h2 with ⟨_, h0⟩ | ⟨g, cap, cur, hv, hg, hh, hnc, _⟩
  · omega
  · exact ⟨g, cap, hv, hg, hnc⟩
theorem own_cell {w : World} {base n g cap i : Nat} {e : TypeId} {xs : List Value} (h : w.ownsRow base e 1 (.slice (some ⟨g, 0, none⟩) n cap) n xs) (hi : i < n) : (∃ u, w.cell? ⟨g, i, none⟩ = some u) ∧ w.frozen? ⟨g, i, none⟩ = false := by
  obtain ⟨h1, h2⟩ := h
  rcases h2 with ⟨hv, _⟩ | ⟨g', cap', cur, hv, hg, hh, hnc, hcm, hcs, hx⟩
  · cases hv
  · injection hv with hA _ hc
    injection hA with hA
    injection hA with hA
    subst hA hc
    refine ⟨⟨cur[i]'(by omega), ?_⟩, by simp [World.frozen?, hh]⟩
    rw [cell_of_row w g i cur e (0, 0) hh, Array.getElem?_eq_getElem (by omega)]
theorem own_of_row {w : World} {base F : Nat} {l : List UInt8} (h : w.heap[F]? = some (.cells #[S l] 9 (0, 0))) (hb : base ≤ F) : w.ownsRow base 9 1 (.slice (some ⟨F, 0, none⟩) 1 1) 1 ([l].map S) :=
  ⟨rfl, .inr ⟨F, 1, _, rfl, hb, h, Nat.le_refl _, by unfold maxLen; omega, rfl, rfl⟩⟩
theorem mid1 {xr : Obj} (h9 : Kept B wr.heap.size wr w9) (t9 : TapeAt w9 B B zs kk) : Mid wr ((w9.alloc fr).alloc xr) B xr fr zs kk (w9.heap.size + 1) w9.heap.size :=
  ⟨heap_alloc2_new _ _ _, heap_alloc2_old _ _ _, h9.size, Nat.le_succ_of_le h9.size, (t9.alloc _).alloc _, (h9.more (Nat.le_refl _) _).more (Nat.le_refl _) _⟩
theorem mid2 {xr : Obj} (h9 : Kept B wr.heap.size wr w9) (t9 : TapeAt w9 B B zs kk) : Mid wr ((w9.alloc xr).alloc fr) B xr fr zs kk w9.heap.size (w9.heap.size + 1) :=
  ⟨heap_alloc2_old _ _ _, heap_alloc2_new _ _ _, Nat.le_succ_of_le h9.size, h9.size, (t9.alloc _).alloc _, (h9.more (Nat.le_refl _) _).more (Nat.le_refl _) _⟩
theorem mid3 {xr : Obj} {F : Nat} (h9 : Kept B wr.heap.size wr w9) (t9 : TapeAt w9 B B zs kk) (hF : w9.heap[F]? = some fr) (hU : wr.heap.size ≤ F) : Mid wr (w9.alloc xr) B xr fr zs kk w9.heap.size F :=
  ⟨heap_alloc_new _ _, (heap_alloc_old _ _ (block_lt hF)).trans hF, hU, h9.size, t9.alloc _, h9.more (Nat.le_refl _) _⟩
theorem mid5 {X F : Nat} {a b a' b' : Value} {t : TypeId} (h9 : Kept B wr.heap.size wr w9) (t9 : TapeAt w9 B B zs kk) (hF : w9.heap[F]? = some fr) (hX : w9.heap[X]? = some (.cells #[a, b] t (0, 0))) (hU : wr.heap.size ≤ F) (hUX : wr.heap.size ≤ X) (hne : F ≠ X) (hB : B < wr.heap.size) :
    Mid wr ((w9.setCell ⟨X, 0, none⟩ a').setCell ⟨X, 1, none⟩ b') B (.cells #[a', b'] t (0, 0)) fr zs kk X F := by
  rw [set2_row hX]
  exact ⟨setRow_heap _ _ _ _ _ _ hX, (setRow_other _ _ _ _ hne).trans hF, hU, hUX, t9.row (by omega) (by omega) _, h9.row (Nat.le_refl _) hUX _⟩
theorem mid4 {X : Nat} {a b a' b' : Value} {t : TypeId} (h9 : Kept B wr.heap.size wr w9) (t9 : TapeAt w9 B B zs kk) (hX : w9.heap[X]? = some (.cells #[a, b] t (0, 0))) (hUX : wr.heap.size ≤ X) (hB : B < wr.heap.size) :
    Mid wr (((w9.alloc fr).setCell ⟨X, 0, none⟩ a').setCell ⟨X, 1, none⟩ b') B (.cells #[a', b'] t (0, 0)) fr zs kk X w9.heap.size :=
  mid5 (h9.more (Nat.le_refl _) _) (t9.alloc _) (heap_alloc_new _ _) ((heap_alloc_old _ _ (block_lt hX)).trans hX) h9.size hUX (by have := block_lt hX; omega) hB
end

set_option maxRecDepth 100000 in
set_option maxHeartbeats 8000000 in
theorem lyLines_c (A : Option Addr) (c : Nat) (zs : List Int) (w : World) (hz : IntsAt w w.heap.size A zs) (hzl : zs.length ≤ maxLen) :
    Calls Tryd.prog 8 #[.slice A zs.length c] w fun e w' => ∃ v, e = .returned v ∧ LinesOwn w' w.heap.size v (madeF zs) ∧ Below w.heap.size w w' := by
  go_enter Tryd.func8, Tryd.ntmps8
  go_wp2_with fail
  have ht0 := tapeAt_new (c := c) hz (Nat.le_refl _) (Below.refl _ w) hzl
  have hm0 := mcells_new (w.alloc (.cells #[.slice A zs.length c, .int .i64 0] 43))
  have hb0 : Below w.heap.size w (w.alloc (.cells #[.slice A zs.length c, .int .i64 0] 43)) := (Below.refl _ _).alloc (Nat.le_refl _) _
  have hs0 : (w.alloc (.cells #[.slice A zs.length c, .int .i64 0] 43)).heap.size = w.heap.size + 1 := by simp
  rw [hs0] at hm0
  generalize w.alloc (.cells #[.slice A zs.length c, .int .i64 0] 43) = w1 at *
  have hb5 : Below w1.heap.size w1 ((((w1.alloc oWords).alloc oParts).alloc oNames).alloc oNums) := ((((Below.refl _ _).alloc (Nat.le_refl _) _).alloc (by simp) _).alloc (by simp; omega) _).alloc (by simp; omega) _
  have hs5 : ((((w1.alloc oWords).alloc oParts).alloc oNames).alloc oNums).heap.size = w.heap.size + 5 := by simp [hs0]
  have ht5 := ht0.keep hb5
  have hb6 : Below w.heap.size w ((((w1.alloc oWords).alloc oParts).alloc oNames).alloc oNums) := hb0.trans (hb5.mono (by omega))
  generalize (((w1.alloc oWords).alloc oParts).alloc oNames).alloc oNums = w5 at *
  generalize e4 : w.heap.size + 1 + 1 + 1 + 1 = g4 at *
  generalize e3 : w.heap.size + 1 + 1 + 1 = g3 at *
  generalize e2 : w.heap.size + 1 + 1 = g2 at *
  generalize e1 : w.heap.size + 1 = g1 at *
  have HE : Hid ((g1 < w5.heap.size ∧ g1 ≠ w.heap.size) ∧ (g2 < w5.heap.size ∧ g2 ≠ w.heap.size) ∧ (g3 < w5.heap.size ∧ g3 ≠ w.heap.size) ∧ (g4 < w5.heap.size ∧ g4 ≠ w.heap.size)) := Lib.hid ⟨⟨by omega, by omega⟩, ⟨by omega, by omega⟩, ⟨by omega, by omega⟩, ⟨by omega, by omega⟩⟩
  have HM := Lib.hid hm0
  have hsz : w.heap.size < w5.heap.size := by omega
  have HB6 := Lib.hid hb6
  clear e1 e2 e3 e4 hz hzl ht0 hm0 hb0 hs0 hb5 hs5 hb6
  have hq0 := tapeN_lt (zs := zs) (k := 0) (n := 6) (by omega)
  refine (nextIs_c w.heap.size w.heap.size 0 6 zs w5 ht5 (by omega) (by omega) (by omega)).mono ?_
  rintro e w6 ⟨rfl, ht6, hg6⟩
  have hk6 : Kept w.heap.size w5.heap.size w5 w6 := Kept.of_grown hg6 (Nat.le_refl _) (fun k hk => by injection hk with hk; omega)
  have HF : Hid (madeF zs = linesF zs (tapeN zs 0 6) 1 []) := Lib.hid rfl
  clear ht5 hg6
  generalize tapeN zs 0 6 = q at *
  go_wp2
  go_loopw [8, 9] (fun v i wr => ∃ (r k : Nat) (ls : List LineD), i = .int .i64 r ∧ r + ls.length ≤ 5 ∧ k ≤ 1 + 30 * ls.length ∧ Hid (madeF zs = linesF zs r k ls) ∧ Hid (LinesOwn wr w5.heap.size v ls) ∧ Hid (TapeAt wr w.heap.size w.heap.size zs k) ∧ Kept w.heap.size w5.heap.size w5 wr) (fun _ i _ => (intOf i).toNat)
  case atStart => exact ⟨q, 1, [], rfl, by simp; omega, by simp, HF, Lib.hid ⟨[], rfl, ⟨by simp [lineCells], .inl ⟨rfl, rfl⟩⟩, by simp⟩, Lib.hid ht6, hk6⟩
  case round =>
    clear hk6 ht6 HF hq0
    obtain ⟨r, k, ls, rfl, hr, hk30, HF, HO, HT, hk⟩ := hrel
    by_cases hr0 : 0 < r
    · go_wp2_with fail
      refine (nextIs_c w.heap.size w.heap.size k 7 zs wr HT.out (by omega) (by omega) (by omega)).mono ?_
      rintro e w7 ⟨rfl, ht7, hg7⟩
      have hk7 : Kept w.heap.size wr.heap.size wr w7 := Kept.of_grown hg7 (Nat.le_refl _) (fun k hk => by injection hk with hk; omega)
      have HT7 := Lib.hid ht7
      have hl7 := tapeN_lt (zs := zs) (k := k) (n := 7) (by omega)
      have HW1 : Hid (¬ 0 < tapeN zs (k + 1) 4 → wordF zs k = (tapeN zs k 7, k + 2)) := Lib.hid (fun h => by unfold wordF; rw [if_neg h])
      generalize tapeN zs k 7 = w1n at *
      clear ht7 hg7 HT
      go_wp2_with fail
      refine (nextIs_c w.heap.size w.heap.size (k + 1) 4 zs w7 HT7.out (by omega) (by omega) (by omega)).mono ?_
      rintro e w8 ⟨rfl, ht8, hg8⟩
      have hk8 : Kept w.heap.size wr.heap.size wr w8 := hk7.trans (Kept.of_grown hg8 hk7.size (fun k hk => by injection hk with hk; omega))
      have HT8 := Lib.hid ht8
      have HW2 : Hid (0 < tapeN zs (k + 1) 4 → wordF zs k = (tapeN zs (k + 2) 6, k + 3)) := Lib.hid (fun h => by unfold wordF; rw [if_pos h])
      generalize tapeN zs (k + 1) 4 = b4 at *
      clear ht8 hg8 HT7 hk7
      go_upto_if 31 with fail
      go_cut [10] (fun v wx => ∃ wn kk : Nat, v = .int .i64 wn ∧ wn < 7 ∧ kk ≤ k + 3 ∧ Hid (wordF zs k = (wn, kk)) ∧ Hid (TapeAt wx w.heap.size w.heap.size zs kk) ∧ Kept w.heap.size wr.heap.size wr wx)
      case first =>
        by_cases hb4 : 0 < b4
        · have hl6 := tapeN_lt (zs := zs) (k := k + 2) (n := 6) (by omega)
          have HW := Lib.hid (HW2.out hb4)
          go_wp2_with fail
          refine (nextIs_c w.heap.size w.heap.size (k + 2) 6 zs w8 HT8.out (by omega) (by omega) (by omega)).mono ?_
          rintro e w9 ⟨rfl, ht9, hg9⟩
          have hk9 : Kept w.heap.size wr.heap.size wr w9 := hk8.trans (Kept.of_grown hg9 hk8.size (fun k hk => by injection hk with hk; omega))
          generalize tapeN zs (k + 2) 6 = w2n at *
          have HT9 := Lib.hid ht9
          clear ht9 hg9
          go_wp2_with fail
          go_meet
          case rel => exact ⟨w2n, k + 3, rfl, by omega, by omega, HW, HT9, hk9⟩
        · have HW := Lib.hid (HW1.out hb4)
          go_wp2_with fail
          go_meet
          case rel => exact ⟨w1n, k + 2, rfl, by omega, by omega, HW, HT8, hk8⟩
      case rest =>
        obtain ⟨wn, kk, rfl, hwn, hkk, HW, HT, hkc⟩ := hcut
        clear hk8 HW1 HW2 HT8 hl7
        go_wp2_with fail
        have hcw := (HM.out.kept (hk.trans (hkc.mono hk.size)) HE.out.1 HE.out.2.1 HE.out.2.2.1 HE.out.2.2.2).words wn hwn
        obtain ⟨num, hnum⟩ : ∃ num, num = tapeN zs kk 99 := ⟨_, rfl⟩
        have hln : num < 99 := hnum ▸ tapeN_lt (by omega)
        have HLN : Hid ((lineF zs k).1.1 = num) := Lib.hid (by unfold lineF; rw [HW.out, hnum])
        have HTd := Lib.hid (HT.out.keep ((Below.refl _ wc).drew))
        have HG1 : Hid (g1 < wc.heap.size ∧ g1 ≠ w.heap.size) := Lib.hid ⟨by have := HE.out.1.1; have := hk.size; have := hkc.size; omega, HE.out.1.2⟩
        have hcwa : ∀ ob, (wc.alloc ob).cell? ⟨g1, wn, none⟩ = some (S (mWord wn)) := fun ob => (((Below.refl _ wc).alloc (Nat.le_refl _) ob).cell (p := ⟨g1, wn, none⟩) HG1.out.1).trans hcw
        have HNN : Hid (tapeN zs kk 99 = num) := Lib.hid hnum.symm
        have hcsz : w.heap.size < wc.heap.size := by have := hk.size; have := hkc.size; omega
        clear hnum
        have hkwc : wr.heap.size ≤ wc.heap.size := hkc.size
        have HKC := Lib.hid (hkc.trans (Kept.of_below (Below.refl wr.heap.size wc).drew))
        have hBr : w.heap.size < wr.heap.size := by have := hk.size; omega
        go_cut [11] (fun v wx => ∃ X F : Nat, v = .pointer (some ⟨X, 0, none⟩) ∧ Hid (Mid wr wx w.heap.size (.cells #[.int .i64 num, .slice (some ⟨F, 0, none⟩) 1 1] 58 (0, 0)) (.cells #[S (mWord wn)] 9 (0, 0)) zs (kk + 1) X F))
        case first =>
          go_region_with (go_at_call 19; refine (nextKept_c w.heap.size w.heap.size kk 99 zs HTd.out (by first | exact Below.refl _ _ | exact (Below.refl _ _).alloc (Nat.le_refl _) _ | exact ((Below.refl _ _).alloc (Nat.le_refl _) _).alloc (by simp) _) (by omega) (by omega) (by omega)).mono ?_; rintro e w9 ⟨he9, ht9, hk9, hK9⟩; have cw9 := (hk9.cell (i := wn) HG1.out.1 HG1.out.2).trans hcw; have cw9a : ∀ ob, (w9.alloc ob).cell? ⟨g1, wn, none⟩ = some (S (mWord wn)) := fun ob => (((Below.refl _ w9).alloc (Nat.le_refl _) ob).cell (p := ⟨g1, wn, none⟩) (World.block_lt_of_cell? _ _ cw9)).trans cw9; have hq9 := HNN.out; rw [hq9] at he9; subst he9; clear hq9; have HT9 := Lib.hid ht9; have HK9 := Lib.hid (HKC.out.trans (hk9.mono HKC.out.size)); (first | (have hx9 : w9.heap[wc.heap.size]? = some (.cells #[.int .i64 0, .slice none 0 0] 58 (0, 0)) := (hK9.block _ (by simp <;> omega) (by omega)).trans (by first | exact heap_alloc_new _ _ | exact (heap_alloc_old _ _ (by simp)).trans (heap_alloc_new _ _)); obtain ⟨rc0, rc1, rf0, rf1⟩ := row2_c hx9; have ra := fun ob => row2_c ((heap_alloc_old w9 ob (block_lt hx9)).trans hx9); have ra0 := fun ob => (ra ob).1; have ra1 := fun ob => (ra ob).2.1; have rb0 := fun ob => (ra ob).2.2.1; have rb1 := fun ob => (ra ob).2.2.2; clear ra; have HX9 := Lib.hid hx9; clear hx9) | (have hx9 : w9.heap[wc.heap.size + 1]? = some (.cells #[.int .i64 0, .slice none 0 0] 58 (0, 0)) := (hK9.block _ (by simp <;> omega) (by omega)).trans (heap_alloc2_new wc _ _); obtain ⟨rc0, rc1, rf0, rf1⟩ := row2_c hx9; have HX9 := Lib.hid hx9; clear hx9) | skip); (first | (have hf9 : w9.heap[wc.heap.size]? = some (.cells #[S (mWord wn)] 9 (0, 0)) := (hK9.block _ (by simp <;> omega) (by omega)).trans (by first | exact heap_alloc_new _ _ | exact (heap_alloc_old _ _ (by simp)).trans (heap_alloc_new _ _)); have HF9 := Lib.hid hf9; clear hf9) | (have hf9 : w9.heap[wc.heap.size + 1]? = some (.cells #[S (mWord wn)] 9 (0, 0)) := (hK9.block _ (by simp <;> omega) (by omega)).trans (heap_alloc2_new wc _ _); have HF9 := Lib.hid hf9; clear hf9) | skip); clear ht9 hk9 hK9)
          all_goals
            go_wp2_with fail
            go_meet
            case rel =>
              first
                | exact ⟨_, _, rfl, Lib.hid (mid1 HK9.out HT9.out)⟩
                | exact ⟨_, _, rfl, Lib.hid (mid2 HK9.out HT9.out)⟩
                | exact ⟨_, _, rfl, Lib.hid (mid3 HK9.out HT9.out HF9.out (by omega))⟩
                | exact ⟨_, _, rfl, Lib.hid (mid5 HK9.out HT9.out HF9.out HX9.out (by omega) (by omega) (by omega) hBr)⟩
                | exact ⟨_, _, rfl, Lib.hid (mid4 HK9.out HT9.out HX9.out (by omega) hBr)⟩
        case rest =>
          obtain ⟨X, F, rfl, HMid⟩ := hcut
          obtain ⟨mX, mF, hFr, hXr, mT, mK⟩ := HMid.out
          have HX := Lib.hid mX
          have HT := Lib.hid mT
          have HFO := Lib.hid (own_of_row mF hFr)
          clear mX mF mT hcw HTd HNN hcsz HKC hkwc hkc hcwa HG1 HMid hFr
          obtain ⟨wi, hwi⟩ : ∃ wi : World, wi = wc := ⟨_, rfl⟩
          obtain ⟨wo, rfl⟩ : ∃ wo : World, wo = wr := ⟨_, rfl⟩
          go_wp2
          go_loopw [12] (fun i wm => ∃ (j kx : Nat) (fs : List (List UInt8)) (fv : Value), i = .int .i64 j ∧ j ≤ 4 ∧ fs.length ≤ 1 + j ∧ kx ≤ kk + 1 + 2 * j ∧ Hid (nameF zs (mNameN wn) 5 0 (kk + 1) [mWord wn] = nameF zs (mNameN wn) (5 - j) j kx fs) ∧ Hid (wm.heap[X]? = some (.cells #[.int .i64 num, fv] 58 (0, 0))) ∧ Hid (wm.ownsRow wo.heap.size 9 1 fv fs.length (fs.map S)) ∧ Hid (TapeAt wm w.heap.size w.heap.size zs kx) ∧ Kept w.heap.size wo.heap.size wo wm) (fun i _ => 5 - (intOf i).toNat)
          case atStart => exact ⟨0, kk + 1, _, _, rfl, by omega, by simp, by omega, Lib.hid rfl, HX, HFO, HT, mK⟩
          case round =>
            clear HX HFO HT mK hwi
            obtain ⟨j, kx, fs, fv, rfl, hj, hfl, hkx, HN, HX, HFV, HT, hki⟩ := hrel
            have hME := HM.out.kept (hk.trans (hki.mono hk.size)) HE.out.1 HE.out.2.1 HE.out.2.2.1 HE.out.2.2.2
            have cn := hME.names wn hwn
            have HMP := Lib.hid hME.parts
            have hGr : g3 < wr.heap.size ∧ g3 ≠ w.heap.size := ⟨by have := HE.out.2.2.1.1; have := hk.size; have := hki.size; omega, HE.out.2.2.1.2⟩
            have hGp : g2 < wr.heap.size ∧ g2 ≠ w.heap.size := ⟨by have := HE.out.2.1.1; have := hk.size; have := hki.size; omega, HE.out.2.1.2⟩
            have HG := Lib.hid (And.intro hGr hGp)
            have hwr : w.heap.size < wr.heap.size := by have := hk.size; have := hki.size; omega
            have hl8 := tapeN_lt (zs := zs) (k := kx) (n := 8) (by omega)
            have hn3 := mNameN_le wn
            have HST : Hid (nameF zs (mNameN wn) (5 - j) j kx fs = if j < mNameN wn + tapeN zs kx 8 / 7 then nameF zs (mNameN wn) (5 - (j + 1)) (j + 1) (kx + 2) (fs ++ [mPart (tapeN zs (kx + 1) 3)]) else (fs, kx + 1)) := Lib.hid (by rw [show 5 - j = 5 - (j + 1) + 1 by omega, nameF])
            obtain ⟨t8, ht8⟩ : ∃ t8, t8 = tapeN zs kx 8 := ⟨_, rfl⟩
            rw [← ht8] at hl8 HST
            have HT8 := Lib.hid ht8
            have HTd := Lib.hid (HT.out.keep ((Below.refl _ wr).drew))
            clear hME hGr hGp ht8
            generalize hnn : mNameN wn = nn at *
            go_wp2_with fail
            go_cut [51] (fun v wx => ∃ bb : Bool, v = .bool bb ∧ Hid (bb = decide (j < nn + t8 / 7)) ∧ Hid (TapeAt wx w.heap.size w.heap.size zs (kx + 1)) ∧ Kept w.heap.size wr.heap.size wr wx)
            case first =>
              have cnd : wr.drew.cell? ⟨g3, wn, none⟩ = some (.int .i64 nn) := cn
              go_region_with (go_at_call 19; refine (nextKept_c w.heap.size w.heap.size kx 8 zs HTd.out (Below.refl _ _) (by omega) (by omega) (by omega)).mono ?_; rintro e w9 ⟨he9, ht9, hk9, hK9⟩; have cw9 := (hk9.cell (i := wn) HG.out.1.1 HG.out.1.2).trans cnd; have hq9 := HT8.out; rw [← hq9] at he9; subst he9; clear hq9; have HT9 := Lib.hid ht9; have HK9 := Lib.hid hk9; clear ht9 hk9 hK9)
              all_goals
                go_wp2_with fail
                go_meet
                have e1 : IntKind.i64.wrap ((t8 : Int) / 7) = (t8 : Int) / 7 := IntWalk.i64_in _ ⟨by omega, by omega⟩
                have e2 : IntKind.i64.wrap ((nn : Int) + (t8 : Int) / 7) = (nn : Int) + (t8 : Int) / 7 := IntWalk.i64_in _ ⟨by omega, by omega⟩
                first
                  | exact ⟨_, rfl, Lib.hid (by rw [e1, e2, decide_eq_decide]; omega), HT9, (Kept.of_below (Below.refl wr.heap.size wr).drew).trans HK9.out⟩
                  | exact ⟨_, rfl, Lib.hid (by rw [e2, decide_eq_decide]; omega), HT9, (Kept.of_below (Below.refl wr.heap.size wr).drew).trans HK9.out⟩
            case rest =>
              obtain ⟨bb, rfl, HBB, HT2, hk2⟩ := hcut
              rcases bb with _ | _
              · have HN2 : Hid (nameF zs nn 5 0 (kk + 1) [mWord wn] = (fs, kx + 1)) := Lib.hid (HN.out.trans (HST.out.trans (if_neg (by simpa using HBB.out))))
                have hX2 := (hk2.block X (block_lt HX.out) (by omega)).trans HX.out
                have HX2 := Lib.hid hX2
                have HFV2 := Lib.hid (ownsRow_keptG HFV.out hk2 (Nat.le_refl _) (by omega))
                have hkW : Kept w.heap.size wo.heap.size wo wc := hki.trans (hk2.mono hki.size)
                have hfl5 : fs.length ≤ 5 := by omega
                have hkx9 : kx + 1 ≤ kk + 10 := by omega
                obtain ⟨fs0, hfs0⟩ : ∃ fs0, fs0 = fs := ⟨_, rfl⟩
                obtain ⟨k0, hk0⟩ : ∃ k0, k0 = kx + 1 := ⟨_, rfl⟩
                rw [← hfs0, ← hk0] at HN2
                rw [← hk0] at HT2 hkx9
                have HNN1 : Hid (nameF zs (mNameN wn) 5 0 (kk + 1) [mWord wn] = (fs0, k0)) := Lib.hid (by rw [hnn]; exact HN2.out)
                clear HTd HST HBB HFV HX HT hki hk2 hX2 cn HG HMP hl8 hn3 hnn hwr HT8 HN hj hfl hkx
                go_wp2
                go_loopw [13] (fun i wm => ∃ (j kx : Nat) (fs : List (List UInt8)) (fv : Value), i = .int .i64 j ∧ j ≤ mNumN wn ∧ fs.length ≤ 5 + j ∧ kx ≤ k0 + j ∧ Hid (numF zs (mNumN wn) k0 fs0 = numF zs (mNumN wn - j) kx fs) ∧ Hid (wm.heap[X]? = some (.cells #[.int .i64 num, fv] 58 (0, 0))) ∧ Hid (wm.ownsRow wo.heap.size 9 1 fv fs.length (fs.map S)) ∧ Hid (TapeAt wm w.heap.size w.heap.size zs kx) ∧ Kept w.heap.size wo.heap.size wo wm) (fun i _ => 5 - (intOf i).toNat)
                case atStart => exact ⟨0, k0, fs, fv, rfl, by omega, by omega, by omega, Lib.hid (by rw [hfs0]; rfl), HX2, HFV2, HT2, hkW⟩
                case round =>
                  clear HX2 HFV2 HT2 hkW hfl5 hk0 hfs0
                  obtain ⟨j, kx, fs, fv, rfl, hj, hfl, hkx, HN, HX, HFV, HT, hki⟩ := hrel
                  have hME := HM.out.kept (hk.trans (hki.mono hk.size)) HE.out.1 HE.out.2.1 HE.out.2.2.1 HE.out.2.2.2
                  have cn := hME.nums wn hwn
                  have HMP := Lib.hid hME.parts
                  have hGr : g4 < wr.heap.size ∧ g4 ≠ w.heap.size := ⟨by have := HE.out.2.2.2.1; have := hk.size; have := hki.size; omega, HE.out.2.2.2.2⟩
                  have hGp : g2 < wr.heap.size ∧ g2 ≠ w.heap.size := ⟨by have := HE.out.2.1.1; have := hk.size; have := hki.size; omega, HE.out.2.1.2⟩
                  have HG := Lib.hid (And.intro hGr hGp)
                  have hwr : w.heap.size < wr.heap.size := by have := hk.size; have := hki.size; omega
                  have hn4 := mNumN_le wn
                  have HST : Hid (j < mNumN wn → numF zs (mNumN wn - j) kx fs = numF zs (mNumN wn - (j + 1)) (kx + 1) (fs ++ [mPart (3 + tapeN zs kx 4)])) := Lib.hid (fun h => by rw [show mNumN wn - j = mNumN wn - (j + 1) + 1 by omega, numF])
                  clear hME hGr hGp
                  generalize hnn : mNumN wn = nn at *
                  by_cases hjn : j < nn
                  · have HN3 : Hid (numF zs nn k0 fs0 = numF zs (nn - (j + 1)) (kx + 1) (fs ++ [mPart (3 + tapeN zs kx 4)])) := Lib.hid (HN.out.trans (HST.out hjn))
                    have hX2 := HX.out
                    have hp3 := tapeN_lt (zs := zs) (k := kx) (n := 4) (by omega)
                    obtain ⟨t, ht⟩ : ∃ t, t = tapeN zs kx 4 := ⟨_, rfl⟩
                    obtain ⟨p, hpt⟩ : ∃ p, p = 3 + t := ⟨_, rfl⟩
                    rw [← ht] at hp3 HN3
                    rw [← hpt] at HN3
                    have HPT := Lib.hid ht
                    have hpt2 : (3 : Int) + (t : Int) = (p : Int) := by omega
                    have cp : wr.cell? ⟨g2, p, none⟩ = some (S (mPart p)) := HMP.out p (by omega)
                    have hpl := mPart_len p
                    have HTd2 := Lib.hid (HT.out.keep ((Below.refl _ wr).drew))
                    have hkW := hki
                    have HKd := Lib.hid (hkW.trans (Kept.of_below (Below.refl wo.heap.size wr).drew))
                    have hxd := hX2
                    generalize mPart p = pt at *
                    have hgw : g2 < wr.heap.size := HG.out.2.1
                    clear HST HX HT ht hki
                    obtain ⟨A2, c2, rfl⟩ := own_slice HFV.out
                    have HFVd := Lib.hid (ownsRow_below HFV.out (Below.refl wr.heap.size wr).drew)
                    have base2 := own_base HFV.out
                    have hXw := block_lt hX2
                    have HX2 := Lib.hid hX2
                    have x1 : wr.cell? ⟨X, 1, none⟩ = some (.slice A2 fs.length c2) := by rw [cell_of_row wr X 1 _ _ _ hX2]; rfl
                    clear hX2 hxd hpt
                    go_wp2_with fail
                    obtain ⟨ti, hti, hz0, hz1, hz2⟩ := info_parts Tryd.infoString
                    have x1d : wr.drew.cell? ⟨X, 1, none⟩ = some (.slice A2 fs.length c2) := x1
                    have hXg : X ≠ w.heap.size := by omega
                    have hp0 : (0 : Int) ≤ (p : Int) := by omega
                    have hp10 : (p : Int) < 10 := by omega
                    have hwp := IntWalk.i64_in (p : Int) ⟨by omega, by omega⟩
                    go_region_law (first | (refine step_append_lies _ (by rfl) _ _ _ (by rfl) wo.heap.size 9 ti (.string ByteArray.empty) 1 16 Tryd.underlying51 hti hz0 hz1 hz2 rfl (by omega) (.slice A2 fs.length c2) fs.length (fs.map S) (by rfl) (HFA.out.alloc _) ⟨_, 0, none⟩ 1 1 [S pt] (by rfl) (by rfl) (World.news_of_block (cs := #[S pt]) (t := 9) (fr := (0, 0)) (heap_alloc_new _ _)) (by simp [Value.oneCell']) (by omega) (by unfold maxLen; omega) (by omega) (HSA.out _) _ rfl ?_; intro gg cap wn1 hown1 hgrow hat hlt; have HOW := Lib.hid hown1; have hX10 : wn1.heap[X]? = some (.cells #[.int .i64 num, .slice A2 fs.length c2] 58 (0, 0)) := (hgrow.block X (Nat.lt_of_lt_of_le (block_lt HX9.out) (by simp)) (fun e => own_ne_block HFA.out HX9.out (by decide) e.symm)).trans ((heap_alloc_old _ _ (block_lt HX9.out)).trans HX9.out); have HX10 := Lib.hid hX10; obtain ⟨_, y1, _, z1⟩ := row2_c hX10; have HGR := Lib.hid hgrow; clear hown1 hgrow hat hlt hX10) | (go_simp; go_at_call 19; refine (nextKept_c w.heap.size w.heap.size kx 4 zs HTd2.out (Below.refl _ _) (by omega) (by omega) (by omega)).mono ?_; rintro e w9 ⟨he9, ht9, hk9, hK9⟩; have hq9 := HPT.out; rw [← hq9] at he9; subst he9; clear hq9; have x9 := (hk9.cell (i := 1) (b := X) hXw hXg).trans x1d; have x9a : ∀ ob, (w9.alloc ob).cell? ⟨X, 1, none⟩ = some (.slice A2 fs.length c2) := fun ob => (((Below.refl _ w9).alloc (Nat.le_refl _) ob).cell (p := ⟨X, 1, none⟩) (World.block_lt_of_cell? _ _ x9)).trans x9; have hX9 := (hk9.block X hXw hXg).trans HX2.out; have HX9 := Lib.hid hX9; have cp0 := (hk9.cell (i := p) hgw HG.out.2.2).trans cp; have cp9 : ∀ ob, (w9.alloc ob).cell? ⟨g2, p, none⟩ = some (S pt) := fun ob => (((Below.refl _ w9).alloc (Nat.le_refl _) ob).cell (p := ⟨g2, p, none⟩) (World.block_lt_of_cell? _ _ cp0)).trans cp0; have HFA := Lib.hid (ownsRow_keptG HFVd.out hk9 (Nat.le_refl _) (by omega)); have HSA : Hid (∀ ob, wo.heap.size ≤ (w9.alloc ob).heap.size) := Lib.hid (fun ob => Nat.le_trans (Nat.le_trans HKd.out.size hk9.size) (by simp)); have HT9 := Lib.hid ht9; have HK9 := Lib.hid (HKd.out.trans (hk9.mono HKd.out.size)); clear ht9 hk9 hK9 hX9))
                    all_goals
                      have base9 := own_base HFA.out
                      have gs := grown_set wn1 X 1 (.slice (some ⟨gg, 0, none⟩) (fs.length + 1) cap)
                      have hk10 : Kept w.heap.size wo.heap.size wo wn1 := (HK9.out.more (Nat.le_refl _) _).trans (Kept.of_grown HGR.out (HSA.out _) (fun k hk => .inr (base9 k hk)))
                      have ht10 := (HT9.out.alloc (.cells #[S pt] 9)).grown HGR.out (fun e => by have := base9 _ e; omega) (fun k hk => by have := base9 k hk; omega)
                      have HX11 := Lib.hid (set_block (v := .slice (some ⟨gg, 0, none⟩) (fs.length + 1) cap) HX10.out)
                      have HFV11 : Hid ((wn1.setCell ⟨X, 1, none⟩ (.slice (some ⟨gg, 0, none⟩) (fs.length + 1) cap)).ownsRow wo.heap.size 9 1 (.slice (some ⟨gg, 0, none⟩) (fs.length + 1) cap) (fs ++ [pt]).length ((fs ++ [pt]).map S)) := Lib.hid (ownsRow_grownB (by simpa using HOW.out) gs HX10.out (by decide))
                      have HT11 : Hid (TapeAt (wn1.setCell ⟨X, 1, none⟩ (.slice (some ⟨gg, 0, none⟩) (fs.length + 1) cap)) w.heap.size w.heap.size zs (kx + 1)) := Lib.hid (ht10.grown gs (fun e => by injection e with e; omega) (fun k hk => by injection hk with hk; omega))
                      have hk11 : Kept w.heap.size wo.heap.size wo (wn1.setCell ⟨X, 1, none⟩ (.slice (some ⟨gg, 0, none⟩) (fs.length + 1) cap)) := hk10.trans (Kept.of_grown gs hk10.size (fun k hk => .inr (by injection hk with hk; omega)))
                      clear gs hk10 ht10 base9 HX10 HOW HGR HT9 HK9 HFA HSA HX9
                      go_wp2
                      go_roundw
                      case rel => exact ⟨j + 1, kx + 1, fs ++ [pt], _, by go_num, by omega, by simp; omega, by omega, HN3, HX11, HFV11, HT11, hk11⟩
                      case measure => simp [intOf]; omega
                  · have HN3 : Hid (numF zs nn k0 fs0 = (fs, kx)) := Lib.hid (HN.out.trans (by rw [show nn - j = 0 by omega]; rfl))
                    have HN4 : Hid (numF zs (mNumN wn) k0 fs0 = (fs, kx)) := Lib.hid (by rw [hnn]; exact HN3.out)
                    have hnn1 : 1 ≤ fs.length := by
                      have h1 := numF_ge (zs := zs) nn k0 fs0
                      have h2 := nameF_ge (zs := zs) (m := mNameN wn) 5 0 (kk + 1) [mWord wn]
                      rw [HN3.out] at h1
                      rw [HNN1.out] at h2
                      simp at h1 h2
                      omega
                    obtain ⟨F2, cap2, rfl, hF2, hcap2⟩ := own_pos HFV.out hnn1
                    have hb12 := tapeN_lt (zs := zs) (k := kx) (n := 12) (by omega)
                    have HS1 : Hid (tapeN zs kx 12 = 0 → swapF zs kx fs = (fs.set (tapeN zs (kx + 1) fs.length) (mPart (tapeN zs (kx + 2) 10)), kx + 3)) := Lib.hid (fun h => by unfold swapF; rw [if_pos h])
                    have HS2 : Hid (¬ tapeN zs kx 12 = 0 → swapF zs kx fs = (fs, kx + 1)) := Lib.hid (fun h => by unfold swapF; rw [if_neg h])
                    go_wp2_with fail
                    refine (nextKept_c (wc := wr) w.heap.size w.heap.size kx 12 zs HT.out (Below.refl _ _) (by omega) (by omega) (by omega)).mono ?_
                    rintro e w9 ⟨rfl, ht9, hk9, _⟩
                    have HX9 := Lib.hid ((hk9.block X (block_lt HX.out) (by omega)).trans HX.out)
                    have HFV9 := Lib.hid (ownsRow_keptG HFV.out hk9 (Nat.le_refl _) (by omega))
                    have HT9 := Lib.hid ht9
                    have hkW9 : Kept w.heap.size wo.heap.size wo w9 := hki.trans (hk9.mono hki.size)
                    have hgp9 : g2 < w9.heap.size := Nat.lt_of_lt_of_le HG.out.2.1 hk9.size
                    have HMP9 := Lib.hid (fun p (hp : p < 10) => (hk9.cell (i := p) HG.out.2.1 HG.out.2.2).trans (HMP.out p hp))
                    have hfl9 : fs.length ≤ 9 := by omega
                    have hkx9 : kx ≤ kk + 14 := by omega
                    generalize tapeN zs kx 12 = b12 at *
                    clear ht9 hk9 HX HFV HT HMP HST cn hki
                    go_upto_if 85 with fail
                    go_cut [] (fun wx => ∃ (fs' : List (List UInt8)) (kx' : Nat), Hid (swapF zs kx fs = (fs', kx')) ∧ fs'.length = fs.length ∧ kx' ≤ kx + 3 ∧ Hid (wx.heap[X]? = some (.cells #[.int .i64 num, .slice (some ⟨F2, 0, none⟩) fs.length cap2] 58 (0, 0))) ∧ Hid (wx.ownsRow wo.heap.size 9 1 (.slice (some ⟨F2, 0, none⟩) fs.length cap2) fs.length (fs'.map S)) ∧ Hid (TapeAt wx w.heap.size w.heap.size zs kx') ∧ Kept w.heap.size wo.heap.size wo wx)
                    case first =>
                      by_cases hb : b12 = 0
                      · have HSW := Lib.hid (HS1.out hb)
                        subst hb
                        obtain ⟨av, hav⟩ : ∃ av, av = tapeN zs (kx + 1) fs.length := ⟨_, rfl⟩
                        obtain ⟨bv, hbv⟩ : ∃ bv, bv = tapeN zs (kx + 2) 10 := ⟨_, rfl⟩
                        have hal : av < fs.length := by rw [hav]; exact tapeN_lt hnn1
                        have hbl : bv < 10 := by rw [hbv]; exact tapeN_lt (by omega)
                        rw [← hav, ← hbv] at HSW
                        have HAV := Lib.hid hav
                        have HBV := Lib.hid hbv
                        have hpl := mPart_len bv
                        have p9 : w9.drew.cell? ⟨g2, bv, none⟩ = some (S (mPart bv)) := HMP9.out bv hbl
                        generalize mPart bv = pt at *
                        have ha0 : (0 : Int) ≤ (av : Int) := by omega
                        have ha1 : (av : Int) < (fs.length : Int) := by omega
                        have hb0 : (0 : Int) ≤ (bv : Int) := by omega
                        have hb1 : (bv : Int) < 10 := by omega
                        have hXw := block_lt HX9.out
                        have hXg : X ≠ w.heap.size := by omega
                        have hXF : X ≠ F2 := fun e => own_ne_block HFV9.out HX9.out (by decide) (by rw [e]; rfl)
                        have hGF : g2 ≠ F2 := by have := HE.out.2.1.1; have := hk.size; omega
                        have x9 : w9.drew.cell? ⟨X, 1, none⟩ = some (.slice (some ⟨F2, 0, none⟩) fs.length cap2) := by rw [cell_of_row w9.drew X 1 _ _ _ HX9.out]; rfl
                        have HTd9 := Lib.hid (HT9.out.keep ((Below.refl _ w9).drew))
                        have HFd9 := Lib.hid (ownsRow_below HFV9.out (Below.refl w9.heap.size w9).drew)
                        have HKd9 := Lib.hid (hkW9.trans (Kept.of_below (Below.refl wo.heap.size w9).drew))
                        clear hav hbv HMP9 hkW9 HS1 HS2 HT9
                        go_wp2_with fail
                        go_region_held3 (fun w' => w'.cell? ⟨X, 1, none⟩ = some (.slice (some ⟨F2, 0, none⟩) fs.length cap2) ∧ w'.cell? ⟨g2, bv, none⟩ = some (S pt)) (first | exact ⟨x9, p9⟩ | exact ⟨x10, p10⟩ | exact ⟨x11, p11⟩ | exact ⟨(World.cell?_setCell_other _ _ _ _ (fun e => hXF (congrArg Addr.block e).symm)).trans x11, (World.cell?_setCell_other _ _ _ _ (fun e => hGF (congrArg Addr.block e).symm)).trans p11⟩) (first | (have h10 := HT10; clear h10; go_at_call 19; refine (nextKept_c (wc := w10) w.heap.size w.heap.size (kx + 2) 10 zs HT10.out (Below.refl _ _) (by omega) (by omega) (by omega)).mono ?_; rintro e w11 ⟨he11, ht11, hk11, _⟩; have hq11 := HBV.out; rw [← hq11] at he11; subst he11; clear hq11; have x11 := (hk11.cell (i := 1) (b := X) (block_lt HX10.out) hXg).trans x10; have HX11 := Lib.hid ((hk11.block X (block_lt HX10.out) hXg).trans HX10.out); have hf11 := ownsRow_keptG HFA10.out hk11 (Nat.le_refl _) (by omega); obtain ⟨⟨u11, y11⟩, z11⟩ := own_cell hf11 hal; have HFA11 := Lib.hid hf11; have p11 := (hk11.cell (i := bv) HGP10.out HG.out.2.2).trans p10; have HT11 := Lib.hid ht11; have HK11 := Lib.hid (HK10.out.trans (hk11.mono HK10.out.size)); clear ht11 hk11 hf11) | (go_at_call 19; refine (nextKept_c (wc := w9.drew) w.heap.size w.heap.size (kx + 1) fs.length zs HTd9.out (Below.refl _ _) (by omega) (by omega) (by omega)).mono ?_; rintro e w10 ⟨he10, ht10, hk10, _⟩; have hq10 := HAV.out; rw [← hq10] at he10; subst he10; clear hq10; have x10 := (hk10.cell (i := 1) (b := X) hXw hXg).trans x9; have HX10 := Lib.hid ((hk10.block X hXw hXg).trans HX9.out); have HFA10 := Lib.hid (ownsRow_keptG HFd9.out hk10 (Nat.le_refl _) (by omega)); have p10 := (hk10.cell (i := bv) hgp9 HG.out.2.2).trans p9; have HGP10 := Lib.hid (Nat.lt_of_lt_of_le hgp9 hk10.size); have HT10 := Lib.hid ht10; have HK10 := Lib.hid (HKd9.out.trans (hk10.mono HKd9.out.size)); clear ht10 hk10))
                        all_goals
                          go_wp2_with fail
                          go_meet
                          case rel =>
                            have gs := grown_set w11 F2 av (S pt)
                            have hne := own_ne_block HFA11.out HX11.out (by decide)
                            refine ⟨fs.set av pt, kx + 3, HSW, by simp, by omega, Lib.hid ((gs.block X (block_lt HX11.out) (fun e => hne (by simpa [Value.ownBlock] using e.symm))).trans HX11.out), Lib.hid (by rw [List.map_set]; exact own_set HFA11.out hal), Lib.hid (HT11.out.grown gs (fun e => by injection e with e; omega) (fun k hk => by injection hk with hk; omega)), HK11.out.trans (Kept.of_grown gs HK11.out.size (fun k hk => .inr (by injection hk with hk; omega)))⟩
                      · have HSW := Lib.hid (HS2.out hb)
                        have hbb : ((b12 : Int) == 0) = false := by rw [beq_eq_false_iff_ne]; omega
                        go_wp2_with fail
                        go_meet
                        case rel => exact ⟨fs, kx + 1, HSW, rfl, by omega, HX9, HFV9, HT9, hkW9⟩
                    case rest =>
                      obtain ⟨fs', kx', HSW, hfs', hkx', HX, HFV, HT, hkc⟩ := hcut
                      clear HX9 HFV9 HT9 hkW9 HMP9 HS1 HS2 hgp9
                      rw [← hfs'] at HX HFV
                      have HLF : Hid (lineF zs k = ((num, fs'), kx')) := Lib.hid (by
                        have h := HLN.out
                        unfold lineF at h ⊢
                        rw [HW.out] at h ⊢
                        simp only [HNN1.out, HN4.out, HSW.out] at h ⊢
                        rw [h])
                      obtain ⟨r', rfl⟩ : ∃ r', r = r' + 1 := ⟨r - 1, by omega⟩
                      have HF2 : Hid (madeF zs = linesF zs r' kx' (ls ++ [(num, fs')])) := Lib.hid (by rw [HF.out, linesF, HLF.out])
                      have hc0 : wc.cell? ⟨X, 0, none⟩ = some (.int .i64 num) := by rw [cell_of_row wc X 0 _ _ (0, 0) HX.out]; rfl
                      have hc1 : wc.cell? ⟨X, 1, none⟩ = some (.slice (some ⟨F2, 0, none⟩) fs'.length cap2) := by rw [cell_of_row wc X 1 _ _ (0, 0) HX.out]; rfl
                      obtain ⟨fvs, hfl2, hown, hfv⟩ := HO.out.keptG hkc (Nat.le_refl _) hsz
                      have base1 := own_base hown
                      have HFv := Lib.hid hfv
                      have HLN2 := Lib.hid hfl2
                      have hszk := hkc.size
                      have hszo := hk.size
                      have hk9 : Kept w.heap.size w5.heap.size w5 wc := hk.trans (hkc.mono hk.size)
                      have hkx2 : kx' ≤ k + 20 := by omega
                      clear hfv hfl2 HN HN3 HN4 HNN1 HSW HLN HW HF HLF HG hnn hkc hfl hkx hfl9 hnn1 hj hjn hfs' hcap2 hkx' hb12 hkx9
                      obtain ⟨ti, hti, hz0, hz1, hz2⟩ := info_parts Tryd.infoLine
                      go_wp2_with (at_builtin; refine wpList_append_own _ rfl _ _ 22 rfl w5.heap.size 58 ti (.agg #[.int .i64 0, .slice none 0 0]) 2 32 Tryd.underlying22 hti hz0 hz1 hz2 rfl (by decide) _ _ _ rfl (hown.alloc _) ⟨wc.heap.size, 0, none⟩ 1 1 [.int .i64 (num : Int), .slice (some ⟨F2, 0, none⟩) fs'.length cap2] rfl rfl ?c1 ?c2 ?c3 ?c4 ?c5 ?_)
                      case c1 =>
                        intro j u hu
                        rcases j with _ | _ | j
                        · simp at hu; subst hu; simp [go_sem]
                        · simp at hu; subst hu; simp [go_sem]
                        · simp at hu
                      case c2 => intro u hu; simp at hu; rcases hu with rfl | rfl <;> rfl
                      case c3 => unfold maxLen; omega
                      case c4 => omega
                      case c5 => simp; omega
                      intro v' w7 own7 hg7 _
                      have hk7 : Kept w.heap.size w5.heap.size w5 w7 := (hk9.more (Nat.le_refl _) _).trans (Kept.of_grown hg7 (by simp; omega) (fun k hk => .inr (base1 k hk)))
                      have HO7 : Hid (LinesOwn w7 w5.heap.size v' (ls ++ [(num, fs')])) := Lib.hid (LinesOwn.snoc HLN2.out hown HFv.out (Below.refl _ _) HFV.out (by omega) hg7 (by simpa using own7))
                      have HT7 : Hid (TapeAt w7 w.heap.size w.heap.size zs kx') := Lib.hid ((HT.out.alloc _).grown hg7 (fun e => by have := base1 _ e; omega) (fun k hk => by have := base1 k hk; omega))
                      have hl7 : r' + (ls ++ [(num, fs')]).length ≤ 5 := by simp; omega
                      have hn7 : kx' ≤ 1 + 30 * (ls ++ [(num, fs')]).length := by simp; omega
                      clear hg7 own7 hown base1 hti hz0 hz1 hz2 HT HO
                      go_wp2
                      go_roundw
                      case rel => exact ⟨r', kx', _, by go_num, hl7, hn7, HF2, HO7, HT7, hk7⟩
                      case measure => simp [intOf]
              · have hjn : j < nn + t8 / 7 := by simpa using HBB.out
                have HN2 : Hid (nameF zs nn 5 0 (kk + 1) [mWord wn] = nameF zs nn (5 - (j + 1)) (j + 1) (kx + 2) (fs ++ [mPart (tapeN zs (kx + 1) 3)])) := Lib.hid (HN.out.trans (HST.out.trans (if_pos hjn)))
                have hX2 := (hk2.block X (block_lt HX.out) (by omega)).trans HX.out
                have HFV2 := Lib.hid (ownsRow_keptG HFV.out hk2 (Nat.le_refl _) (by omega))
                have hp3 := tapeN_lt (zs := zs) (k := kx + 1) (n := 3) (by omega)
                obtain ⟨p, hp⟩ : ∃ p, p = tapeN zs (kx + 1) 3 := ⟨_, rfl⟩
                rw [← hp] at hp3 HN2
                have HPT := Lib.hid hp
                have cp : wc.cell? ⟨g2, p, none⟩ = some (S (mPart p)) := (hk2.cell HG.out.2.1 HG.out.2.2).trans (HMP.out p (by omega))
                have hpl := mPart_len p
                have HTd2 := Lib.hid (HT2.out.keep ((Below.refl _ wc).drew))
                have hkW : Kept w.heap.size wo.heap.size wo wc := hki.trans (hk2.mono hki.size)
                have HKd := Lib.hid (hkW.trans (Kept.of_below (Below.refl wo.heap.size wc).drew))
                have hxd := hX2
                generalize mPart p = pt at *
                have hgw : g2 < wc.heap.size := Nat.lt_of_lt_of_le HG.out.2.1 hk2.size
                clear HTd HST HBB HFV HX HT hp hki hk2
                obtain ⟨A2, c2, rfl⟩ := own_slice HFV2.out
                have HFVd := Lib.hid (ownsRow_below HFV2.out (Below.refl wc.heap.size wc).drew)
                have base2 := own_base HFV2.out
                have hXw := block_lt hX2
                have HX2 := Lib.hid hX2
                have x1 : wc.cell? ⟨X, 1, none⟩ = some (.slice A2 fs.length c2) := by rw [cell_of_row wc X 1 _ _ _ hX2]; rfl
                clear hX2 hxd cn
                go_wp2_with fail
                obtain ⟨ti, hti, hz0, hz1, hz2⟩ := info_parts Tryd.infoString
                have x1d : wc.drew.cell? ⟨X, 1, none⟩ = some (.slice A2 fs.length c2) := x1
                have hXg : X ≠ w.heap.size := by omega
                have hp0 : (0 : Int) ≤ (p : Int) := by omega
                have hp10 : (p : Int) < 10 := by omega
                go_region_law (first | (refine step_append_lies _ (by rfl) _ _ _ (by rfl) wo.heap.size 9 ti (.string ByteArray.empty) 1 16 Tryd.underlying51 hti hz0 hz1 hz2 rfl (by omega) (.slice A2 fs.length c2) fs.length (fs.map S) (by rfl) (HFA.out.alloc _) ⟨_, 0, none⟩ 1 1 [S pt] (by rfl) (by rfl) (World.news_of_block (cs := #[S pt]) (t := 9) (fr := (0, 0)) (heap_alloc_new _ _)) (by simp [Value.oneCell']) (by omega) (by unfold maxLen; omega) (by omega) (HSA.out _) _ rfl ?_; intro gg cap wn1 hown1 hgrow hat hlt; have HOW := Lib.hid hown1; have hX10 : wn1.heap[X]? = some (.cells #[.int .i64 num, .slice A2 fs.length c2] 58 (0, 0)) := (hgrow.block X (Nat.lt_of_lt_of_le (block_lt HX9.out) (by simp)) (fun e => own_ne_block HFA.out HX9.out (by decide) e.symm)).trans ((heap_alloc_old _ _ (block_lt HX9.out)).trans HX9.out); have HX10 := Lib.hid hX10; obtain ⟨_, y1, _, z1⟩ := row2_c hX10; have HGR := Lib.hid hgrow; clear hown1 hgrow hat hlt hX10) | (go_simp; go_at_call 19; refine (nextKept_c w.heap.size w.heap.size (kx + 1) 3 zs HTd2.out (Below.refl _ _) (by omega) (by omega) (by omega)).mono ?_; rintro e w9 ⟨he9, ht9, hk9, hK9⟩; have hq9 := HPT.out; rw [← hq9] at he9; subst he9; clear hq9; have x9 := (hk9.cell (i := 1) (b := X) hXw hXg).trans x1d; have x9a : ∀ ob, (w9.alloc ob).cell? ⟨X, 1, none⟩ = some (.slice A2 fs.length c2) := fun ob => (((Below.refl _ w9).alloc (Nat.le_refl _) ob).cell (p := ⟨X, 1, none⟩) (World.block_lt_of_cell? _ _ x9)).trans x9; have hX9 := (hk9.block X hXw hXg).trans HX2.out; have HX9 := Lib.hid hX9; have cp0 := (hk9.cell (i := p) hgw HG.out.2.2).trans cp; have cp9 : ∀ ob, (w9.alloc ob).cell? ⟨g2, p, none⟩ = some (S pt) := fun ob => (((Below.refl _ w9).alloc (Nat.le_refl _) ob).cell (p := ⟨g2, p, none⟩) (World.block_lt_of_cell? _ _ cp0)).trans cp0; have HFA := Lib.hid (ownsRow_keptG HFVd.out hk9 (Nat.le_refl _) (by omega)); have HSA : Hid (∀ ob, wo.heap.size ≤ (w9.alloc ob).heap.size) := Lib.hid (fun ob => Nat.le_trans (Nat.le_trans HKd.out.size hk9.size) (by simp)); have HT9 := Lib.hid ht9; have HK9 := Lib.hid (HKd.out.trans (hk9.mono HKd.out.size)); clear ht9 hk9 hK9 hX9))
                all_goals
                  have base9 := own_base HFA.out
                  have gs := grown_set wn1 X 1 (.slice (some ⟨gg, 0, none⟩) (fs.length + 1) cap)
                  have hk10 : Kept w.heap.size wo.heap.size wo wn1 := (HK9.out.more (Nat.le_refl _) _).trans (Kept.of_grown HGR.out (HSA.out _) (fun k hk => .inr (base9 k hk)))
                  have ht10 := (HT9.out.alloc (.cells #[S pt] 9)).grown HGR.out (fun e => by have := base9 _ e; omega) (fun k hk => by have := base9 k hk; omega)
                  have HX11 := Lib.hid (set_block (v := .slice (some ⟨gg, 0, none⟩) (fs.length + 1) cap) HX10.out)
                  have HFV11 : Hid ((wn1.setCell ⟨X, 1, none⟩ (.slice (some ⟨gg, 0, none⟩) (fs.length + 1) cap)).ownsRow wo.heap.size 9 1 (.slice (some ⟨gg, 0, none⟩) (fs.length + 1) cap) (fs ++ [pt]).length ((fs ++ [pt]).map S)) := Lib.hid (ownsRow_grownB (by simpa using HOW.out) gs HX10.out (by decide))
                  have HT11 : Hid (TapeAt (wn1.setCell ⟨X, 1, none⟩ (.slice (some ⟨gg, 0, none⟩) (fs.length + 1) cap)) w.heap.size w.heap.size zs (kx + 2)) := Lib.hid (ht10.grown gs (fun e => by injection e with e; omega) (fun k hk => by injection hk with hk; omega))
                  have hk11 : Kept w.heap.size wo.heap.size wo (wn1.setCell ⟨X, 1, none⟩ (.slice (some ⟨gg, 0, none⟩) (fs.length + 1) cap)) := hk10.trans (Kept.of_grown gs hk10.size (fun k hk => .inr (by injection hk with hk; omega)))
                  clear gs hk10 ht10 base9 HX10 HOW HGR HT9 HK9 HFA HSA HX9
                  go_wp2
                  go_roundw
                  case rel => exact ⟨j + 1, kx + 2, fs ++ [pt], _, by go_num, by omega, by simp; omega, by omega, HN2, HX11, HFV11, HT11, hk11⟩
                  case measure => simp [intOf]; omega
    · obtain rfl : r = 0 := by omega
      have HE2 : Hid (madeF zs = ls) := HF
      have HB := Lib.hid (HB6.out.trans (hk.below (by omega) (Nat.le_refl _)))
      obtain ⟨fvs, hfl2, hown, hfv⟩ := HO.out
      have HOW := Lib.hid hown
      have HFv := Lib.hid hfv
      have HFl := Lib.hid hfl2
      clear hown hfv hfl2 HO HF HT
      go_wp2_with fail
      go_ret
      refine ⟨_, rfl, ?_, HB.out⟩
      rw [HE2.out]
      exact ⟨fvs, HFl.out, ownsRow_base HOW.out (by omega), fun i fv l h1 h2 => ownsRow_base (HFv.out i fv l h1 h2) (by omega)⟩
end Go.Proofs.YtpglhidhghhmoaaDoor
