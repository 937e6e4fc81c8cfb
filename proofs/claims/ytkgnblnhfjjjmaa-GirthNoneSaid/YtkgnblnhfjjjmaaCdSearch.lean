/- Contract of components' search: what it leaves is a depth-first search's list. -/
import Derived.Test.YtkgnblnhfjjjmaaCdMem
import Derived.Deep.LoopGhost
namespace Go.Proofs.Ytkgnblnhfjjjmaa
open Go Go.RowKit Fl

/-- The search's memory: the marks in block G, the numbers of tries in block T, two rows behind. -/
structure SrM (w0 : World) (G T : Nat) (lv cv : Value) (C l : List Nat) (M : List Bool) (f : Nat → Nat) (wr : World) : Prop where
  seen : ArrC wr G 62 (M.map Bo)
  tried : ArrC wr T 54 (trL f)
  lo : IRow wr (T + 1) lv l
  co : IRow wr (T + 1) cv C
  apart : ∀ b, lv.ownBlock = some b → cv.ownBlock ≠ some b
  grown : w0.grownBy wr (some G)
  sz : T + 1 ≤ wr.heap.size
  base : G < T ∧ w0.heap.size ≤ T
theorem grown_put {w w' : World} {row : Option Nat} {G k : Nat} {u : Value} (h : w.grownBy w' row) (hG : row = some G ∨ w.heap.size ≤ G) : w.grownBy (w'.setCell ⟨G, k, none⟩ u) row :=
  ⟨h.os, h.tape, h.output, by simpa [World.setCell] using h.size, fun b hb hne => by
    rw [Below.heap_setCell w' ⟨G, k, none⟩ u b (by
      intro e
      rcases hG with h1 | h1
      · exact hne (by rw [h1, e])
      · have : b = G := e
        omega)]
    exact h.block b hb hne⟩
theorem grown_then {a b c : World} {row row' : Option Nat} (h : a.grownBy b row) (k : b.grownBy c row') (hr : ∀ j, row' = some j → a.heap.size ≤ j ∨ row = some j) : a.grownBy c row :=
  ⟨k.os.trans h.os, k.tape.trans h.tape, k.output.trans h.output, Nat.le_trans h.size k.size, fun i hi hne =>
    (k.block i (Nat.lt_of_lt_of_le hi h.size) (fun e => by
      rcases hr i e.symm with h1 | h1
      · omega
      · exact hne h1.symm)).trans (h.block i hi hne)⟩
theorem SrM.tick {w0 wr : World} {G T : Nat} {lv cv : Value} {C l : List Nat} {M : List Bool} {f : Nat → Nat} (h : SrM w0 G T lv cv C l M f wr) (v k : Nat) : SrM w0 G T lv cv C l M (upF f v k) (wr.setCell ⟨T, v, none⟩ (.int .i64 k)) := by
  obtain ⟨b1, b2⟩ := h.base
  refine ⟨h.seen.put (by omega), ?_, h.lo.same fun b hb => Below.heap_setCell _ _ _ _ (by have := (h.lo.lt hb).2; show b ≠ T; omega), h.co.same fun b hb => Below.heap_setCell _ _ _ _ (by have := (h.co.lt hb).2; show b ≠ T; omega), h.apart, grown_put h.grown (.inr b2), by simpa [World.setCell] using h.sz, h.base⟩
  rw [← trL_set]
  exact h.tried.set v _
theorem SrM.enter {w0 wr : World} {G T : Nat} {lv cv : Value} {C l : List Nat} {M : List Bool} {f : Nat → Nat} (h : SrM w0 G T lv cv C l M f wr) (v : Nat) : SrM w0 G T lv cv C l (M.set v true) f (wr.setCell ⟨G, v, none⟩ (.bool true)) := by
  obtain ⟨b1, b2⟩ := h.base
  refine ⟨?_, h.tried.put (by omega), h.lo.same fun b hb => Below.heap_setCell _ _ _ _ (by have := (h.lo.lt hb).2; show b ≠ G; omega), h.co.same fun b hb => Below.heap_setCell _ _ _ _ (by have := (h.co.lt hb).2; show b ≠ G; omega), h.apart, grown_put h.grown (.inl rfl), by simpa [World.setCell] using h.sz, h.base⟩
  rw [List.map_set]
  exact h.seen.set v _
theorem SrM.cpush {w0 wr wn : World} {G T gg : Nat} {A' : Option Addr} {n cap : Nat} {lv cv : Value} {C l C' : List Nat} {M : List Bool} {f : Nat → Nat} {o : Obj} (h : SrM w0 G T lv cv C l M f wr) (hA : A' = some ⟨gg, 0, none⟩) (hown : IRow wn (T + 1) (.slice A' n cap) C') (hg : (wr.alloc o).grownBy wn cv.ownBlock) (hat : cv.ownBlock = some gg ∨ gg = (wr.alloc o).heap.size) : SrM w0 G T lv (.slice A' n cap) C' l M f wn := by
  subst hA
  obtain ⟨b1, b2⟩ := h.base
  have hsz := h.sz
  have hc : ∀ b, cv.ownBlock = some b → T + 1 ≤ b := fun b hb => (h.co.lt hb).2
  obtain ⟨k1, k2⟩ := two_app h.lo (fun b h1 h2 => h.apart b h2 h1) hg hat
  refine ⟨(h.seen.alloc o).grown hg (fun e => by have := hc G e.symm; omega), (h.tried.alloc o).grown hg (fun e => by have := hc T e.symm; omega), k1, hown, fun b hb e => ?_, ?_, ?_, h.base⟩
  · simp [Value.ownBlock] at e
    subst e
    exact k2 hb
  · refine grown_then (h.grown.trans (World.grownBy_alloc _ o _)) hg fun j hj => .inl (by have := hc j hj; omega)
  · have := hg.size
    simp at this
    omega
theorem SrM.lpush {w0 wr wn : World} {G T gg : Nat} {A' : Option Addr} {n cap : Nat} {lv cv : Value} {C l l' : List Nat} {M : List Bool} {f : Nat → Nat} {o : Obj} (h : SrM w0 G T lv cv C l M f wr) (hA : A' = some ⟨gg, 0, none⟩) (hown : IRow wn (T + 1) (.slice A' n cap) l') (hg : (wr.alloc o).grownBy wn lv.ownBlock) (hat : lv.ownBlock = some gg ∨ gg = (wr.alloc o).heap.size) : SrM w0 G T (.slice A' n cap) cv C l' M f wn := by
  subst hA
  obtain ⟨b1, b2⟩ := h.base
  have hsz := h.sz
  have hc : ∀ b, lv.ownBlock = some b → T + 1 ≤ b := fun b hb => (h.lo.lt hb).2
  obtain ⟨k1, k2⟩ := two_app h.co h.apart hg hat
  refine ⟨(h.seen.alloc o).grown hg (fun e => by have := hc G e.symm; omega), (h.tried.alloc o).grown hg (fun e => by have := hc T e.symm; omega), hown, k1, fun b hb e => ?_, ?_, ?_, h.base⟩
  · simp [Value.ownBlock] at hb
    subst hb
    exact k2 e
  · refine grown_then (h.grown.trans (World.grownBy_alloc _ o _)) hg fun j hj => .inl (by have := hc j hj; omega)
  · have := hg.size
    simp at this
    omega
theorem SrM.cpop {w0 wr : World} {G T : Nat} {q n n' cap : Nat} {lv : Value} {C C' l : List Nat} {M : List Bool} {f : Nat → Nat} (h : SrM w0 G T lv (.slice (some ⟨q, 0, none⟩) n cap) C l M f wr) (hown : IRow wr (T + 1) (.slice (some ⟨q, 0, none⟩) n' cap) C') : SrM w0 G T lv (.slice (some ⟨q, 0, none⟩) n' cap) C' l M f wr :=
  ⟨h.seen, h.tried, h.lo, hown, fun b hb => by have := h.apart b hb; simpa [Value.ownBlock] using this, h.grown, h.sz, h.base⟩
theorem SrM.drewN {w0 wr : World} {G T : Nat} {lv cv : Value} {C l : List Nat} {M : List Bool} {f : Nat → Nat} (h : SrM w0 G T lv cv C l M f wr) (n : Nat) : SrM w0 G T lv cv C l M f (wr.drewN n) :=
  ⟨h.seen, h.tried, h.lo, h.co, h.apart, ⟨h.grown.os, h.grown.tape, h.grown.output, h.grown.size, h.grown.block⟩, h.sz, h.base⟩
theorem new_cell (W : World) (u : Value) (t : TypeId) : (W.alloc (.cells #[u] t)).cell? ⟨W.heap.size, 0, none⟩ = some u := by
  rw [cell_of_row _ _ 0 _ _ _ (heap_alloc_new W _)]
  rfl
/-- What the search only reads. -/
theorem SrM.read {w0 wr : World} {G T : Nat} {lv cv : Value} {C l : List Nat} {M M0 : List Bool} {f : Nat → Nat} (h : SrM w0 G T lv cv C l M f wr) (h0 : ArrC w0 G 62 (M0.map Bo)) {b o : Nat} {u : Value} (hc : w0.cell? ⟨b, o, none⟩ = some u) (hu : ∀ z : Bool, u ≠ .bool z) : wr.cell? ⟨b, o, none⟩ = some u := by
  have hne := h0.not hc hu
  exact (h.grown.cell_far ⟨b, o, none⟩ (World.block_lt_of_cell? _ _ hc) (fun e => hne (by injection e))).trans hc

/-- At label resume: v stands last. -/
def AtResume (A : Option Addr) (c G T : Nat) (g : GraphD) (z : List Bool) (A0 : List Nat) (v0 : Nat) (w0 : World) (m : Nat) (a : Act) (wr : World) : Prop :=
  ∃ (x3 x4 x5 x10 x11 x12 x13 x14 x15 x16 x17 x18 x19 x20 x21 x22 x23 x24 x25 x26 x27 x28 x29 x30 x31 x32 x33 x34 x35 x36 x37 x38 x39 x40 x41 x42 x43 x44 x45 x46 x47 x48 x49 x50 x51 x52 x53 x54 x55 x56 x57 x58 x59 x60 x61 x62 x63 x64 x65 x66 : Value) (lv cv : Value) (v : Nat) (C l : List Nat) (M : List Bool) (f : Nat → Nat), a = { tmps := #[.slice A g.length c, .int .i64 v, .pointer (some ⟨G, 0, none⟩), x3, x4, x5, .slice none 0 0, lv, cv, .pointer (some ⟨T, 0, none⟩), x10, x11, x12, x13, x14, x15, x16, x17, x18, x19, x20, x21, x22, x23, x24, x25, x26, x27, x28, x29, x30, x31, x32, x33, x34, x35, x36, x37, x38, x39, x40, x41, x42, x43, x44, x45, x46, x47, x48, x49, x50, x51, x52, x53, x54, x55, x56, x57, x58, x59, x60, x61, x62, x63, x64, x65, x66], defers := [] } ∧ m = 2 * cntT g f + C.length ∧ Hid (SrS g z A0 v0 v C l M f) ∧ Hid (SrM w0 G T lv cv C l M f wr)
/-- At label enter: v is yet to be marked. -/
def AtEnter (A : Option Addr) (c G T : Nat) (g : GraphD) (z : List Bool) (A0 : List Nat) (v0 : Nat) (w0 : World) (m : Nat) (a : Act) (wr : World) : Prop :=
  ∃ (x3 x4 x5 x10 x11 x12 x13 x14 x15 x16 x17 x18 x19 x20 x21 x22 x23 x24 x25 x26 x27 x28 x29 x30 x31 x32 x33 x34 x35 x36 x37 x38 x39 x40 x41 x42 x43 x44 x45 x46 x47 x48 x49 x50 x51 x52 x53 x54 x55 x56 x57 x58 x59 x60 x61 x62 x63 x64 x65 x66 : Value) (lv cv : Value) (v : Nat) (C l : List Nat) (M : List Bool) (f : Nat → Nat), a = { tmps := #[.slice A g.length c, .int .i64 v, .pointer (some ⟨G, 0, none⟩), x3, x4, x5, .slice none 0 0, lv, cv, .pointer (some ⟨T, 0, none⟩), x10, x11, x12, x13, x14, x15, x16, x17, x18, x19, x20, x21, x22, x23, x24, x25, x26, x27, x28, x29, x30, x31, x32, x33, x34, x35, x36, x37, x38, x39, x40, x41, x42, x43, x44, x45, x46, x47, x48, x49, x50, x51, x52, x53, x54, x55, x56, x57, x58, x59, x60, x61, x62, x63, x64, x65, x66], defers := [] } ∧ m = 2 * cntT g f + C.length ∧ M.length = 24 ∧ Hid (SrS g z A0 v0 v C l (M.set v true) f) ∧ Hid (SrM w0 G T lv cv C l M f wr)

set_option maxRecDepth 100000 in
set_option maxHeartbeats 8000000 in
theorem search_c (A : Option Addr) (c G : Nat) (g : GraphD) (z : List Bool) (A0 : List Nat) (v0 : Nat) (M0 : List Bool) (w0 : World) (hh : RowsAt w0 A g) (hg : validG g = true) (hd : Dfs g z A0 []) (hv : v0 < g.length) (hM : ArrC w0 G 62 (M0.map Bo)) (ml : M0.length = 24) (h0 : ∀ x, atB M0 x = true ↔ atB z x = true ∨ x ∈ A0) (hn : atB M0 v0 = false) :
    Calls Try.prog 43 #[.slice A g.length c, .int .i64 v0, .pointer (some ⟨G, 0, none⟩)] w0 fun e w' => ∃ (u : Value) (l : List Nat) (M : List Bool), e = .returned u ∧ IRow w' (w0.heap.size + 1) u l ∧ ArrC w' G 62 (M.map Bo) ∧ w0.grownBy w' (some G) ∧ SrEnd g z A0 v0 M0 l M := by
  have hl24 := validG_len hg
  have hGT : G < w0.heap.size := hM.lt
  have HH := Lib.hid hh
  have HG := Lib.hid hg
  have HM := Lib.hid hM
  have H0 := Lib.hid h0
  have HR24 := Lib.hid (validG_short hg)
  have HS := Lib.hid (SrS.start hd hv (by omega) ml h0 hn)
  clear hh hg hM hd h0 hn
  obtain ⟨T, hT⟩ : ∃ T, w0.heap.size = T := ⟨_, rfl⟩
  have HT := Lib.hid hT
  have HM1 : Hid (SrM w0 G T (.slice none 0 0) (.slice none 0 0) [] [] M0 (fun _ => 0) (w0.alloc (.cells #[.int .i64 0, .int .i64 0, .int .i64 0, .int .i64 0, .int .i64 0, .int .i64 0, .int .i64 0, .int .i64 0, .int .i64 0, .int .i64 0, .int .i64 0, .int .i64 0, .int .i64 0, .int .i64 0, .int .i64 0, .int .i64 0, .int .i64 0, .int .i64 0, .int .i64 0, .int .i64 0, .int .i64 0, .int .i64 0, .int .i64 0, .int .i64 0] 54))) := Lib.hid ⟨HM.out.alloc _, (by rw [← hT]; exact heap_alloc_new _ _), IRow.nil _ _, IRow.nil _ _, by simp [Value.ownBlock], World.grownBy_alloc _ _ _, by simp [hT], by omega, by omega⟩
  go_enter Try.func43, Try.ntmps43
  go_wp2
  refine wp_scope_two 0 1 (by rfl) (by rfl) (AtEnter A c G T g z A0 v0 w0) (AtResume A c G T g z A0 v0 w0) ?pass1 ?pass0 ?first
  case first =>
    intro P0 K hK
    have HP := Lib.hid P0
    have HK := Lib.hid hK
    clear P0 hK
    apply wp_seq_k; intro K0 hK0
    have HK0 := Lib.hid hK0
    clear hK0
    go_wp2
    refine HK0.out _ _ ?_
    clear HK0 K0
    apply wp_seq_k; intro K0 hK0
    have HK0 := Lib.hid hK0
    clear hK0
    go_wp2
    refine HK0.out _ _ ?_
    clear HK0 K0
    refine wp_seq (wp_label ?_)
    refine HP.out (2 * cntT g (fun _ => 0) + 0) _ _ ?_ K (HK.out _)
    exact ⟨_, _, _, _, _, _, _, _, _, _, _, _, _, _, _, _, _, _, _, _, _, _, _, _, _, _, _, _, _, _, _, _, _, _, _, _, _, _, _, _, _, _, _, _, _, _, _, _, _, _, _, _, _, _, _, _, _, _, _, _, .slice none 0 0, .slice none 0 0, v0, [], [], M0, fun _ => 0, rfl, rfl, ml, HS, HM1⟩
  case pass0 =>
    intro P1 m a wr hJ K hK
    have HP := Lib.hid P1
    have HK := Lib.hid hK
    clear P1 hK HS HM1
    obtain ⟨x3, x4, x5, x10, x11, x12, x13, x14, x15, x16, x17, x18, x19, x20, x21, x22, x23, x24, x25, x26, x27, x28, x29, x30, x31, x32, x33, x34, x35, x36, x37, x38, x39, x40, x41, x42, x43, x44, x45, x46, x47, x48, x49, x50, x51, x52, x53, x54, x55, x56, x57, x58, x59, x60, x61, x62, x63, x64, x65, x66, lv, cv, v, C, l, M, f, rfl, rfl, mlM, HSr, HMr⟩ := hJ
    have hv24 : v < 24 := by have := HSr.out.lens.2; omega
    obtain ⟨cu, c1, f1⟩ : ∃ cu, wr.cell? ⟨G, v, none⟩ = some cu ∧ wr.frozen? ⟨G, v, none⟩ = false := ⟨_, HMr.out.seen.cell (k := v) (u := .bool (M[v]'(by omega))) (by rw [List.getElem?_map, List.getElem?_eq_getElem (by omega)]; rfl)⟩
    have HM2 := Lib.hid (HMr.out.enter v)
    clear HMr
    apply wp_seq_k; intro K0 hK0
    have HK0 := Lib.hid hK0
    clear hK0
    go_wp2
    refine HK0.out _ _ ?_
    clear HK0 K0
    refine wp_seq (wp_label ?_)
    refine HP.out _ _ _ ?_ K HK.out
    exact ⟨_, _, _, _, _, _, _, _, _, _, _, _, _, _, _, _, _, _, _, _, _, _, _, _, _, _, _, _, _, _, _, _, _, _, _, _, _, _, _, _, _, _, _, _, _, _, _, _, _, _, _, _, _, _, _, _, _, _, _, _, lv, cv, v, C, l, _, f, rfl, rfl, HSr, HM2⟩
  case pass1 =>
    intro m a wr hJ K hK
    have HK := Lib.hid hK
    clear hK HS HM1
    obtain ⟨x3, x4, x5, x10, x11, x12, x13, x14, x15, x16, x17, x18, x19, x20, x21, x22, x23, x24, x25, x26, x27, x28, x29, x30, x31, x32, x33, x34, x35, x36, x37, x38, x39, x40, x41, x42, x43, x44, x45, x46, x47, x48, x49, x50, x51, x52, x53, x54, x55, x56, x57, x58, x59, x60, x61, x62, x63, x64, x65, x66, lv, cv, v, C, l, M, f, rfl, rfl, HSr, HMr⟩ := hJ
    obtain ⟨hlens, hvg⟩ := HSr.out.lens
    have hv24 : v < 24 := by omega
    obtain ⟨bg, og, A2, c2, rfl, e1, h1⟩ := HH.out.one hvg
    have hr24 := HR24.out _ (List.getElem_mem hvg)
    have HX := Lib.hid (rowOk_row HG.out hvg)
    rw [← rowG_get hvg] at e1 h1 hr24
    have HE := Lib.hid (fun (W : World) (lv cv : Value) (C l : List Nat) (f : Nat → Nat) (h : SrM w0 G T lv cv C l M f W) => h.read HM.out e1 (by intro b; simp))
    have HR := Lib.hid h1
    clear e1 h1
    apply wp_seq_k; intro K0 hK0
    have HK0 := Lib.hid hK0
    clear hK0
    go_wp2
    go_loopg [1, 8] (cntT g f) (fun gk vv cvv wx => vv = .int .i64 v ∧ cvv = cv ∧ ∃ f', cntT g f' ≤ gk ∧ cntT g f' ≤ cntT g f ∧ Hid (SrS g z A0 v0 v C l M f') ∧ Hid (SrM w0 G T lv cv C l M f' wx))
    case atStart => exact ⟨rfl, rfl, f, Nat.le_refl _, Nat.le_refl _, HSr, HMr⟩
    case round =>
      clear HSr HMr
      obtain ⟨rfl, rfl, f', hck, hcf, HSr, HMr⟩ := hrel
      have e1 := HE.out _ _ _ _ _ _ HMr.out
      obtain ⟨eT, fT⟩ := HMr.out.tried.cell (trL_at hv24)
      have hfl := (HSr.out.tr v hvg).1
      by_cases hlt : f' v < (rowG g v).length
      · obtain ⟨br, or_, rfl, e2⟩ := HR.out.iv hlt
        have e2r := HMr.out.read HM.out e2 (by intro b; simp)
        obtain ⟨y0, y1, _⟩ := HX.out _ (List.getElem_mem hlt)
        obtain ⟨y, hy⟩ := Int.eq_ofNat_of_zero_le y0
        have hyr : (rowG g v)[f' v]? = some (y : Int) := by rw [List.getElem?_eq_getElem hlt, hy]
        rw [hy] at e2r y1
        have hyg : y < g.length := by omega
        have hy24 : y < 24 := by omega
        have hyM : y < M.length := by rw [HSr.out.ml]; exact hy24
        obtain ⟨eS, fS⟩ := HMr.out.seen.cell (k := y) (u := .bool M[y]) (by rw [List.getElem?_map, List.getElem?_eq_getElem hyM]; rfl)
        have hMy := atB_at hyM
        have HMt : Hid (∀ n : Nat, SrM w0 G T lv u8 C l M (upF f' v (f' v + 1)) ((wr.drewN n).setCell ⟨T, v, none⟩ (.int .i64 ((f' v : Int) + 1)))) := Lib.hid (fun n => by
          have h := (HMr.out.drewN n).tick v (f' v + 1)
          rwa [show ((f' v + 1 : Nat) : Int) = (f' v : Int) + 1 by omega] at h)
        have HTk := Lib.hid (fun hm => HSr.out.tick hlt hyr hm)
        have HPu := Lib.hid (fun hm => HSr.out.push hlt hyr hyg hy24 hm)
        have hcn := cntT_step hvg hlt
        have hml := HSr.out.ml
        have hGT' : G ≠ T := by omega
        have HC : Hid (u8.ownBlock = u8.ownBlock) := Lib.hid rfl
        clear e2 y0 y1 hy hyr HMr HSr
        rcases hb : M[y] with _ | _
        · rw [hb] at eS hMy
          have HP2 := Lib.hid (HPu.out (by simpa using hMy))
          have HCO := Lib.hid (fun (n : Nat) (ob : Obj) => (HMt.out n).co.same (w' := ((wr.drewN n).setCell ⟨T, v, none⟩ (.int .i64 ((f' v : Int) + 1))).alloc ob) (fun k hk => Below.heap_alloc _ _ _ ((HMt.out n).co.lt hk).1))
          have hsz2 : T + 1 ≤ wr.heap.size := by have := (HMt.out 0).sz; simpa [World.setCell] using this
          clear HTk HPu hMy hb HM HX HE HR HG HH
          go_wp2
          go_quiet (fail)
          go_wp2
          go_quiet (fail)
          go_wp2_with (at_builtin; refine app_vert _ rfl _ _ (by rfl) (T + 1) u8 C (by rfl) (HCO.out _ _) _ v (by rfl) (by simpa [World.setCell] using new_cell ((wr.drewN _).setCell ⟨T, v, none⟩ (.int .i64 ((f' v : Int) + 1))) (.int .i64 v) 3) (by omega) (by simp [World.setCell]; omega) ?_)
          intro gg cap wn hown hgrow hat
          have HM3 := Lib.hid ((HMt.out _).cpush rfl hown hgrow (by simpa [World.setCell] using hat))
          clear hown hgrow hat HMt HCO
          go_wp2
          refine wp_goto ?_
          refine HK.out.1 (2 * cntT g (upF f' v (f' v + 1)) + (C ++ [v]).length) _ _ (by simp; omega) ?_
          exact ⟨_, _, _, _, _, _, _, _, _, _, _, _, _, _, _, _, _, _, _, _, _, _, _, _, _, _, _, _, _, _, _, _, _, _, _, _, _, _, _, _, _, _, _, _, _, _, _, _, _, _, _, _, _, _, _, _, _, _, _, _, lv, _, y, C ++ [v], l, M, _, rfl, rfl, hml, HP2, HM3⟩
        · rw [hb] at eS hMy
          have HT2 := Lib.hid (HTk.out (by simpa using hMy))
          clear HTk HPu hMy hb HM HX HE HR HG HH
          go_wp2
          go_quiet (fail)
          go_wp2
          go_quiet (fail)
          go_wp2
          go_roundg (cntT g (upF f' v (f' v + 1)))
          case measure => omega
          case rel => exact ⟨rfl, rfl, _, Nat.le_refl _, by omega, HT2, Lib.hid (HMt.out _)⟩
      · have hge : (rowG g v).length ≤ f' v := by omega
        have HLO := Lib.hid (fun (n : Nat) (ob : Obj) => (HMr.out.drewN n).lo.same (w' := (wr.drewN n).alloc ob) (fun k hk => Below.heap_alloc _ _ _ ((HMr.out.drewN n).lo.lt hk).1))
        have hsz2 : T + 1 ≤ wr.heap.size := HMr.out.sz
        clear HM HX HR HE HG HH
        rcases List.eq_nil_or_concat C with rfl | ⟨C1, u, hC⟩
        · obtain ⟨CA, cc, rfl⟩ := HMr.out.co.is
          go_wp2
          go_quiet (fail)
          go_wp2
          refine HK0.out _ _ ?_
          have HMn := Lib.hid (fun n => HMr.out.drewN n)
          clear HMr HK0 e1 eT fT
          go_wp2_with (at_builtin; refine app_vert _ rfl _ _ (by rfl) (T + 1) lv l (by rfl) (HLO.out _ _) _ v (by rfl) (by simpa using new_cell (wr.drewN _) (.int .i64 v) 3) (by omega) (by simp; omega) ?_)
          intro gg cap wn hown hgrow hat
          have HM3 := Lib.hid ((HMn.out _).lpush rfl hown hgrow (by simpa using hat))
          clear hown hgrow hat HMn HLO
          go_wp2
          refine HK.out.2.2 _ _ ?_
          refine bodyPost_ret (results_tmp rfl _ _ _) rfl ?_
          rw [hT]
          exact ⟨_, l ++ [v], M, rfl, by simpa using HM3.out.lo, HM3.out.seen, HM3.out.grown, HSr.out.end_ hge H0.out⟩
        · rw [List.concat_eq_append] at hC
          subst hC
          obtain ⟨q, cc, rfl, hle, _, _⟩ := HMr.out.co.last
          go_wp2
          go_quiet (fail)
          go_wp2
          refine HK0.out _ _ ?_
          have HMn := Lib.hid (fun n => HMr.out.drewN n)
          clear HMr HK0 e1 eT fT
          go_wp2_with (at_builtin; refine app_vert _ rfl _ _ (by rfl) (T + 1) lv l (by rfl) (HLO.out _ _) _ v (by rfl) (by simpa using new_cell (wr.drewN _) (.int .i64 v) 3) (by simp at hlens; omega) (by simp; omega) ?_)
          intro gg cap wn hown hgrow hat
          have HM3 := Lib.hid ((HMn.out _).lpush rfl hown hgrow (by simpa using hat))
          clear hown hgrow hat HMn HLO
          obtain ⟨q', cc', he, hle', hcell, hrow⟩ := HM3.out.co.last
          injection he with he _ hc
          injection he with he
          injection he with he
          subst he hc
          have HRw := Lib.hid hrow
          have hlC : C1.length ≤ 1000 := by simp at hlens; omega
          clear hrow
          go_wp2
          go_quiet (fail)
          go_wp2
          refine wp_goto ?_
          refine HK.out.2.1 (2 * cntT g f' + C1.length) _ _ (by simp; omega) ?_
          exact ⟨_, _, _, _, _, _, _, _, _, _, _, _, _, _, _, _, _, _, _, _, _, _, _, _, _, _, _, _, _, _, _, _, _, _, _, _, _, _, _, _, _, _, _, _, _, _, _, _, _, _, _, _, _, _, _, _, _, _, _, _, _, _, u, C1, l ++ [v], M, f', rfl, rfl, Lib.hid (HSr.out.pop hge), Lib.hid ((HM3.out.cpop HRw.out).drewN _)⟩
end Go.Proofs.Ytkgnblnhfjjjmaa
