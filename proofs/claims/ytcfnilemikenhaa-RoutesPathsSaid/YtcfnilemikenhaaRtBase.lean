/- What the walks of layer 7's laws ask of routes' functions, and what these then return at valid graphs. -/
import Derived.Test.YtcfnilemikenhaaRtRef
import Derived.Test.YtcfnilemikenhaaGsDist
import Derived.Test.YtcfnilemikenhaaChBase
namespace Go.Proofs.Ytcfnilemikenhaa
open Go Go.RowKit Fl

theorem ListPost.res {w w' : World} {l : List Int} {k : Int} {e : Ending} (h : ListPost w l k e w') : IntsRes w l k e w' := by
  obtain ⟨u, rfl, ho, hb⟩ := h
  obtain ⟨A, c, rfl, hr⟩ := own_is ho
  exact ⟨A, c, rfl, hr, hb⟩
def DevDist : Prop := ∀ (A B : Option Addr) (c d : Nat) (g : GraphD) (s : List Bool) (goal : Int) (w : World), RowsAt w A g → Holds w B (s.map Bo) → Sized g →
  Calls Try.prog 12 #[.slice A g.length c, .slice B s.length d, .int .i64 goal] w (IntsRes w (disL g s goal) (twoE g s.length goal goal))
def DevHops : Prop := ∀ (A B : Option Addr) (c d : Nat) (g : GraphD) (s : List Bool) (goal : Int) (w : World), RowsAt w A g → Holds w B (s.map Bo) → Sized g →
  Calls Try.prog 14 #[.slice A g.length c, .slice B s.length d, .int .i64 goal] w (IntsRes w (hopL g s goal) (twoE g s.length goal goal))
def DevPath : Prop := ∀ (A B : Option Addr) (c d : Nat) (g : GraphD) (s : List Bool) (a goal : Int) (w : World), RowsAt w A g → Holds w B (s.map Bo) → Sized g →
  Calls Try.prog 17 #[.slice A g.length c, .slice B s.length d, .int .i64 a, .int .i64 goal] w (IntsRes w (patL g s a goal) (twoE g s.length a goal))
def DevTable : Prop := ∀ (A B : Option Addr) (c d : Nat) (g : GraphD) (s : List Bool) (w : World), RowsAt w A g → Holds w B (s.map Bo) → Sized g →
  Calls Try.prog 19 #[.slice A g.length c, .slice B s.length d] w (fun e w' => ∃ X cx, e = .returned (.tuple #[.slice X (tabL g s).length cx, .int .i64 (chkG g s.length)]) ∧ RowsAt w' X (tabL g s) ∧ Below w.heap.size w w')
theorem dist_ok (h : DevDist) {A B : Option Addr} {c d n v : Nat} {g : GraphD} {s : List Bool} {W : World} (hr : RowsAt W A g) (hs : Holds W B (s.map Bo)) (hg : validG g = true) (hn : g.length = n) (hsl : s.length = n) (hv : v < n) :
    Calls Try.prog 12 #[.slice A n c, .slice B n d, .int .i64 (v : Int)] W fun e w' => ∃ X cx, e = .returned (.tuple #[.slice X n cx, .int .i64 0]) ∧ Holds w' X ((distF g s v).map Iv) ∧ Below W.heap.size W w' := by
  have h := h A B c d g s v W hr hs (Sized.valid hg)
  have h0 := twoE_ok (m := s.length) (a := v) (b := v) (chkG_ok hg (by omega)) (by omega) (by omega)
  have h1 : disL g s v = distF g s v := by unfold disL; rw [if_pos h0, Int.toNat_natCast]
  rw [h1, h0, hsl, hn] at h
  refine h.mono fun e w' ⟨X, cx, h3, h4⟩ => ⟨X, cx, ?_, h4⟩
  rw [h3, distF_length, hn]
theorem hops_ok (h : DevHops) {A B : Option Addr} {c d n v : Nat} {g : GraphD} {s : List Bool} {W : World} (hr : RowsAt W A g) (hs : Holds W B (s.map Bo)) (hg : validG g = true) (hn : g.length = n) (hsl : s.length = n) (hv : v < n) :
    Calls Try.prog 14 #[.slice A n c, .slice B n d, .int .i64 (v : Int)] W fun e w' => ∃ X cx, e = .returned (.tuple #[.slice X n cx, .int .i64 0]) ∧ Holds w' X ((hopsL g (distF g s v)).map Iv) ∧ Below W.heap.size W w' := by
  have h := h A B c d g s v W hr hs (Sized.valid hg)
  have h0 := twoE_ok (m := s.length) (a := v) (b := v) (chkG_ok hg (by omega)) (by omega) (by omega)
  have h1 : hopL g s v = hopsL g (distF g s v) := by unfold hopL; rw [if_pos h0, Int.toNat_natCast]
  rw [h1, h0, hsl, hn] at h
  refine h.mono fun e w' ⟨X, cx, h3, h4⟩ => ⟨X, cx, ?_, h4⟩
  rw [h3, hopsL_len, hn]
theorem path_ok (h : DevPath) {A B : Option Addr} {c d n a v : Nat} {g : GraphD} {s : List Bool} {W : World} (hr : RowsAt W A g) (hs : Holds W B (s.map Bo)) (hg : validG g = true) (hn : g.length = n) (hsl : s.length = n) (ha : a < n) (hv : v < n) :
    Calls Try.prog 17 #[.slice A n c, .slice B n d, .int .i64 (a : Int), .int .i64 (v : Int)] W fun e w' => ∃ X cx, e = .returned (.tuple #[.slice X (firstF g s a v).length cx, .int .i64 0]) ∧ Holds w' X ((firstF g s a v).map Iv) ∧ Below W.heap.size W w' := by
  have h := h A B c d g s a v W hr hs (Sized.valid hg)
  have h0 := twoE_ok (m := s.length) (a := a) (b := v) (chkG_ok hg (by omega)) (by omega) (by omega)
  have h1 : patL g s a v = firstF g s a v := by unfold patL; rw [if_pos h0, Int.toNat_natCast, Int.toNat_natCast]
  rw [h1, h0, hsl, hn] at h
  exact h
theorem table_ok (h : DevTable) {A B : Option Addr} {c d n : Nat} {g : GraphD} {s : List Bool} {W : World} (hr : RowsAt W A g) (hs : Holds W B (s.map Bo)) (hg : validG g = true) (hn : g.length = n) (hsl : s.length = n) :
    Calls Try.prog 19 #[.slice A n c, .slice B n d] W fun e w' => ∃ X cx, e = .returned (.tuple #[.slice X n cx, .int .i64 0]) ∧ RowsAt w' X (tabF g s n) ∧ Below W.heap.size W w' := by
  have h := h A B c d g s W hr hs (Sized.valid hg)
  have h0 := chkG_ok (m := s.length) hg (by omega)
  have h1 : tabL g s = tabF g s g.length := by unfold tabL; rw [if_pos h0]
  rw [h1, h0, hsl, tabF_len, hn] at h
  exact h
/-! ### The example -/
theorem alloc5h (w : World) (o1 o2 o3 o4 o5 : Obj) : (((((w.alloc o1).alloc o2).alloc o3).alloc o4).alloc o5).heap[w.heap.size]? = some o1 ∧ (((((w.alloc o1).alloc o2).alloc o3).alloc o4).alloc o5).heap[w.heap.size + 1]? = some o2 ∧ (((((w.alloc o1).alloc o2).alloc o3).alloc o4).alloc o5).heap[w.heap.size + 1 + 1]? = some o3 ∧ (((((w.alloc o1).alloc o2).alloc o3).alloc o4).alloc o5).heap[w.heap.size + 1 + 1 + 1]? = some o4 ∧ (((((w.alloc o1).alloc o2).alloc o3).alloc o4).alloc o5).heap[w.heap.size + 1 + 1 + 1 + 1]? = some o5 := by
  have e : (((((w.alloc o1).alloc o2).alloc o3).alloc o4).alloc o5).heap = ((((w.heap.push o1).push o2).push o3).push o4).push o5 := rfl
  rw [e]
  refine ⟨?_, ?_, ?_, ?_, ?_⟩ <;> simp only [Array.getElem?_push, Array.size_push]
  · rw [if_neg (by omega), if_neg (by omega), if_neg (by omega), if_neg (by omega), if_pos trivial]
  · rw [if_neg (by omega), if_neg (by omega), if_neg (by omega), if_pos trivial]
  · rw [if_neg (by omega), if_neg (by omega), if_pos trivial]
  · rw [if_neg (by omega), if_pos trivial]
  · rw [if_pos trivial]
theorem rows4 (w : World) (n : Nat) (c1 c2 c3 c4 : Array Value) (r1 r2 r3 r4 : List Int) (k1 k2 k3 k4 : Nat) (e1 e2 e3 e4 e5 : TypeId) (h1 : c1.toList = r1.map Iv) (h2 : c2.toList = r2.map Iv) (h3 : c3.toList = r3.map Iv) (h4 : c4.toList = r4.map Iv) (hn : n = w.heap.size) (l1 : k1 = r1.length) (l2 : k2 = r2.length) (l3 : k3 = r3.length) (l4 : k4 = r4.length) :
    RowsAt (((((w.alloc (.cells c1 e1)).alloc (.cells c2 e2)).alloc (.cells c3 e3)).alloc (.cells c4 e4)).alloc (.cells #[.slice (some ⟨n, 0, none⟩) k1 k1, .slice (some ⟨n + 1, 0, none⟩) k2 k2, .slice (some ⟨n + 1 + 1, 0, none⟩) k3 k3, .slice (some ⟨n + 1 + 1 + 1, 0, none⟩) k4 k4] e5)) (some ⟨n + 1 + 1 + 1 + 1, 0, none⟩) [r1, r2, r3, r4] := by
  subst hn l1 l2 l3 l4
  obtain ⟨b1, b2, b3, b4, b5⟩ := alloc5h w (.cells c1 e1) (.cells c2 e2) (.cells c3 e3) (.cells c4 e4) (.cells #[.slice (some ⟨w.heap.size, 0, none⟩) r1.length r1.length, .slice (some ⟨w.heap.size + 1, 0, none⟩) r2.length r2.length, .slice (some ⟨w.heap.size + 1 + 1, 0, none⟩) r3.length r3.length, .slice (some ⟨w.heap.size + 1 + 1 + 1, 0, none⟩) r4.length r4.length] e5)
  generalize (((((w.alloc (.cells c1 e1)).alloc (.cells c2 e2)).alloc (.cells c3 e3)).alloc (.cells c4 e4)).alloc (.cells #[.slice (some ⟨w.heap.size, 0, none⟩) r1.length r1.length, .slice (some ⟨w.heap.size + 1, 0, none⟩) r2.length r2.length, .slice (some ⟨w.heap.size + 1 + 1, 0, none⟩) r3.length r3.length, .slice (some ⟨w.heap.size + 1 + 1 + 1, 0, none⟩) r4.length r4.length] e5)) = W at b1 b2 b3 b4 b5 ⊢
  refine .inr ⟨w.heap.size + 1 + 1 + 1 + 1, 0, rfl, block_lt b5, fun k hk => ?_⟩
  have hk4 : k < 4 := hk
  match k, hk4 with
  | 0, _ => exact ⟨_, r1.length, by rw [cell_of_row W _ _ _ e5 _ b5]; rfl, holds_blk b1 h1⟩
  | 1, _ => exact ⟨_, r2.length, by rw [cell_of_row W _ _ _ e5 _ b5]; rfl, holds_blk b2 h2⟩
  | 2, _ => exact ⟨_, r3.length, by rw [cell_of_row W _ _ _ e5 _ b5]; rfl, holds_blk b3 h3⟩
  | 3, _ => exact ⟨_, r4.length, by rw [cell_of_row W _ _ _ e5 _ b5]; rfl, holds_blk b4 h4⟩
theorem below_alloc5 (w : World) (o1 o2 o3 o4 o5 : Obj) : Below w.heap.size w (((((w.alloc o1).alloc o2).alloc o3).alloc o4).alloc o5) := (((((Below.refl _ _).alloc (Nat.le_refl _) _).alloc (by simp) _).alloc (by simp; omega) _).alloc (by simp; omega) _).alloc (by simp; omega) _
abbrev cG : GraphD := [[1], [2], [3], [0]]
abbrev cS : List Bool := [false, false, false, false]
theorem cG_valid : validG cG = true := by decide
theorem c_dist : distF cG cS 0 = [0, 3, 2, 1] := by decide
theorem c_hops : hopsL cG (distF cG cS 0) = [-1, 2, 3, 0] := by decide
theorem c_path : firstF cG cS 1 0 = [1, 2, 3, 0] := by decide
theorem c_tab : tabF cG cS 4 = [[-1, 2, 3, 0], [1, -1, 3, 0], [1, 2, -1, 0], [1, 2, 3, -1]] := by decide
set_option maxRecDepth 100000 in
set_option maxHeartbeats 4000000 in
theorem known7_c (hD : DevDist) (hH : DevHops) (hP : DevPath) (hT : DevTable) (w : World) : Calls Try.prog 8 #[] w fun e w' => e = .returned (.bool true) ∧ Below w.heap.size w w' := by
  have CD := Lib.hid (fun (A B : Option Addr) (c d : Nat) (W : World) hr hs => dist_ok hD (A := A) (B := B) (c := c) (d := d) (n := 4) (v := 0) (g := cG) (s := cS) (W := W) hr hs cG_valid rfl rfl (by decide))
  have CH := Lib.hid (fun (A B : Option Addr) (c d : Nat) (W : World) hr hs => hops_ok hH (A := A) (B := B) (c := c) (d := d) (n := 4) (v := 0) (g := cG) (s := cS) (W := W) hr hs cG_valid rfl rfl (by decide))
  have CP := Lib.hid (fun (A B : Option Addr) (c d : Nat) (W : World) hr hs => path_ok hP (A := A) (B := B) (c := c) (d := d) (n := 4) (a := 1) (v := 0) (g := cG) (s := cS) (W := W) hr hs cG_valid rfl rfl (by decide) (by decide))
  have CT := Lib.hid (fun (A B : Option Addr) (c d : Nat) (W : World) hr hs => table_ok hT (A := A) (B := B) (c := c) (d := d) (n := 4) (g := cG) (s := cS) (W := W) hr hs cG_valid rfl rfl)
  rw [c_hops, show (((0 : Nat) : Int)) = 0 from rfl] at CH
  rw [c_dist, show (((0 : Nat) : Int)) = 0 from rfl] at CD
  rw [c_path, show (((0 : Nat) : Int)) = 0 from rfl, show (((1 : Nat) : Int)) = 1 from rfl, show ([1, 2, 3, 0] : List Int).length = 4 from rfl] at CP
  rw [c_tab] at CT
  clear hD hH hP hT
  go_enter Try.func8, Try.ntmps8
  go_wp2_with fail
  have HR1 := Lib.hid (rows4 w w.heap.size #[.int .i64 1] #[.int .i64 2] #[.int .i64 3] #[.int .i64 0] [1] [2] [3] [0] 1 1 1 1 3 3 3 3 25 rfl rfl rfl rfl rfl rfl rfl rfl rfl)
  have HW1 := Lib.hid (below_alloc5 w (.cells #[.int .i64 1] 3) (.cells #[.int .i64 2] 3) (.cells #[.int .i64 3] 3) (.cells #[.int .i64 0] 3) (.cells #[.slice (some ⟨w.heap.size, 0, none⟩) 1 1, .slice (some ⟨w.heap.size + 1, 0, none⟩) 1 1, .slice (some ⟨w.heap.size + 1 + 1, 0, none⟩) 1 1, .slice (some ⟨w.heap.size + 1 + 1 + 1, 0, none⟩) 1 1] 25))
  have HK1 := Lib.hid (fun (ob : Obj) => HR1.out.keep (below_alloc _ ob))
  have HW2 := Lib.hid (fun (ob : Obj) => HW1.out.trans ((below_alloc _ ob).mono HW1.out.size))
  refine (CD.out (some ⟨w.heap.size + 1 + 1 + 1 + 1, 0, none⟩) (some ⟨w.heap.size + 1 + 1 + 1 + 1 + 1, 0, none⟩) 4 4 _ (HK1.out _) (lit_holds _ _ #[.bool false, .bool false, .bool false, .bool false] _ _ (by simp) rfl)).mono ?_
  rintro e w2 ⟨X1, c1, rfl, h1, hb1⟩
  have HM2 := Lib.hid ((lit_holds (((((w.alloc (.cells #[.int .i64 1] 3)).alloc (.cells #[.int .i64 2] 3)).alloc (.cells #[.int .i64 3] 3)).alloc (.cells #[.int .i64 0] 3)).alloc (.cells #[.slice (some ⟨w.heap.size, 0, none⟩) 1 1, .slice (some ⟨w.heap.size + 1, 0, none⟩) 1 1, .slice (some ⟨w.heap.size + 1 + 1, 0, none⟩) 1 1, .slice (some ⟨w.heap.size + 1 + 1 + 1, 0, none⟩) 1 1] 25)) (w.heap.size + 1 + 1 + 1 + 1 + 1) #[.bool false, .bool false, .bool false, .bool false] 4 (cS.map Bo) (by simp) rfl).keep hb1)
  have HR2 := Lib.hid ((HK1.out _).keep hb1)
  have HB2 := Lib.hid ((HW2.out _).trans (hb1.mono (HW2.out _).size))
  have HX2 := Lib.hid h1
  clear h1 hb1 HR1 HW1 HK1 HW2 CD
  go_wp2_with fail
  refine (CH.out _ _ 4 4 _ HR2.out HM2.out).mono ?_
  rintro e w3 ⟨X2, c2, rfl, h2, hb2⟩
  have HM3 := Lib.hid (HM2.out.keep hb2)
  have HR3 := Lib.hid (HR2.out.keep hb2)
  have HB3 := Lib.hid (HB2.out.trans (hb2.mono HB2.out.size))
  have HX3 := Lib.hid (HX2.out.keep hb2)
  have HY3 := Lib.hid h2
  clear h2 hb2 HM2 HR2 HB2 HX2 CH
  go_wp2_with fail
  refine (CP.out _ _ 4 4 _ HR3.out HM3.out).mono ?_
  rintro e w4 ⟨X3, c3, rfl, h3, hb3⟩
  have HM4 := Lib.hid (HM3.out.keep hb3)
  have HR4 := Lib.hid (HR3.out.keep hb3)
  have HB4 := Lib.hid (HB3.out.trans (hb3.mono HB3.out.size))
  have HX4 := Lib.hid (HX3.out.keep hb3)
  have HY4 := Lib.hid (HY3.out.keep hb3)
  have HZ4 := Lib.hid h3
  clear h3 hb3 HM3 HR3 HB3 HX3 HY3 CP
  go_wp2_with fail
  refine (CT.out _ _ 4 4 _ HR4.out HM4.out).mono ?_
  rintro e w5 ⟨X4, c4, rfl, h4, hb4⟩
  obtain ⟨q4, o4, A0, c0, rfl, h40, h41⟩ := h4.one (k := 0) (by decide)
  have hq4 : q4 < w5.heap.size := World.block_lt_of_cell? _ _ h40
  have HB5 := Lib.hid (HB4.out.trans (hb4.mono HB4.out.size))
  have HX5 := Lib.hid (HX4.out.keep hb4)
  have HY5 := Lib.hid (HY4.out.keep hb4)
  have HZ5 := Lib.hid (HZ4.out.keep hb4)
  have HT5 : Hid (Holds w5 A0 (([-1, 2, 3, 0] : List Int).map Iv)) := Lib.hid h41
  have HC5 : Hid (∀ W, Below w5.heap.size w5 W → W.cell? ⟨q4, o4 + 0, none⟩ = some (.slice A0 4 c0)) := Lib.hid (fun W hW => (hW.cell (p := ⟨q4, o4 + 0, none⟩) hq4).trans h40)
  clear h4 hb4 h40 h41 HM4 HR4 HB4 HX4 HY4 HZ4 CT hq4
  go_wp2_with fail
  refine (sameIntsE_c X1 (some ⟨w5.heap.size, 0, none⟩) c1 4 [0, 3, 2, 1] _ (HX5.out.keep (below_alloc _ _)) (lit_holds _ _ #[.int .i64 0, .int .i64 3, .int .i64 2, .int .i64 1] _ _ rfl rfl) (by decide)).mono ?_
  rintro e w6 ⟨rfl, n6, rfl⟩
  have hb6 := below_drewN (below_alloc w5 (.cells #[.int .i64 0, .int .i64 3, .int .i64 2, .int .i64 1] 3)) n6
  generalize (w5.alloc (.cells #[.int .i64 0, .int .i64 3, .int .i64 2, .int .i64 1] 3)).drewN n6 = w6 at *
  go_wp2_with fail
  refine (sameIntsE_c X2 (some ⟨w6.heap.size, 0, none⟩) c2 4 [-1, 2, 3, 0] _ ((HY5.out.keep hb6).keep (below_alloc _ _)) (lit_holds _ _ #[.int .i64 (-1), .int .i64 2, .int .i64 3, .int .i64 0] _ _ rfl rfl) (by decide)).mono ?_
  rintro e w7 ⟨rfl, n7, rfl⟩
  have hb7 := hb6.trans ((below_drewN (below_alloc w6 (.cells #[.int .i64 (-1), .int .i64 2, .int .i64 3, .int .i64 0] 3)) n7).mono hb6.size)
  generalize (w6.alloc (.cells #[.int .i64 (-1), .int .i64 2, .int .i64 3, .int .i64 0] 3)).drewN n7 = w7 at *
  go_wp2_with fail
  refine (sameIntsE_c X3 (some ⟨w7.heap.size, 0, none⟩) c3 4 [1, 2, 3, 0] _ ((HZ5.out.keep hb7).keep (below_alloc _ _)) (lit_holds _ _ #[.int .i64 1, .int .i64 2, .int .i64 3, .int .i64 0] _ _ rfl rfl) (by decide)).mono ?_
  rintro e w8 ⟨rfl, n8, rfl⟩
  have hb8 := hb7.trans ((below_drewN (below_alloc w7 (.cells #[.int .i64 1, .int .i64 2, .int .i64 3, .int .i64 0] 3)) n8).mono hb7.size)
  generalize (w7.alloc (.cells #[.int .i64 1, .int .i64 2, .int .i64 3, .int .i64 0] 3)).drewN n8 = w8 at *
  have e8 := HC5.out w8 hb8
  rw [Nat.add_zero] at e8
  go_wp2_with fail
  refine (sameIntsE_c A0 X2 c0 c2 [-1, 2, 3, 0] _ (HT5.out.keep hb8) (HY5.out.keep hb8) (by decide)).mono ?_
  rintro e w9 ⟨rfl, n9, rfl⟩
  have HB9 := Lib.hid (HB5.out.trans ((below_drewN hb8 n9).mono HB5.out.size))
  clear hb6 hb7 hb8 e8 HB5 HX5 HY5 HZ5 HT5 HC5
  go_wp2
  go_ret
  exact ⟨rfl, HB9.out⟩
end Go.Proofs.Ytcfnilemikenhaa
