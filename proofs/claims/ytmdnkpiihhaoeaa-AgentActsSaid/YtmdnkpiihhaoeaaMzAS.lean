/- Joined texts. -/
import Derived.Test.YtmdnkpiihhaoeaaMzAR
import Derived.Deep.RegionHeld3
import Derived.Deep.DeepCutAuto
import Derived.Lib.SliceRun
namespace Go.Proofs.Ytmdnkpiihhaoeaa
open Go Go.RowKit Fl

theorem BodAt.grown {w w' : World} {b : Nat} {q : BodD} {row : Option Nat} (h : BodAt w b q) (hg : w.grownBy w' row) (hr : row ≠ some b) : BodAt w' b q := (hg.block b (block_lt h) (fun e => hr e.symm)).trans h
theorem gbB_next {w a b : World} {g : Nat} (h : w.grownBy a (some g)) (k : a.grownBy b (some g)) : w.grownBy b (some g) :=
  ⟨k.os.trans h.os, k.tape.trans h.tape, k.output.trans h.output, Nat.le_trans h.size k.size, fun i hi hn => (k.block i (Nat.lt_of_lt_of_le hi h.size) hn).trans (h.block i hi hn)⟩
theorem gbB_below {w a b : World} {g : Nat} (h : w.grownBy a (some g)) (k : Below w.heap.size a b) : w.grownBy b (some g) :=
  ⟨k.os.trans h.os, k.tape.trans h.tape, k.output.trans h.output, Nat.le_trans h.size k.size, fun i hi hn => (k.block i hi).trans (h.block i hi hn)⟩
theorem gbB_refl (w : World) (g : Nat) : w.grownBy w (some g) := ⟨rfl, rfl, rfl, Nat.le_refl _, fun _ _ _ => rfl⟩
/-- What the making of a body has so far: the zero result in R, the body in X. -/
structure BM (w : World) (B gt T R X : Nat) (q : BodD) (wx : World) : Prop where
  gb : w.grownBy wx (some gt)
  tape : TapeOk wx B gt T
  zero : BodAt wx R zeroB
  bd : BodAt wx X q
theorem BM.next {w wx wy : World} {B gt T R X : Nat} {q : BodD} (h : BM w B gt T R X q wx) (ht : TapeOk wy B gt (T + 1)) (hg : wx.grownBy wy (some gt)) (hR : R ≠ gt) (hX : X ≠ gt) : BM w B gt (T + 1) R X q wy :=
  ⟨gbB_next h.gb hg, ht, h.zero.grown hg (fun e => by injection e with e; exact hR e.symm), h.bd.grown hg (fun e => by injection e with e; exact hX e.symm)⟩
theorem BM.put {w wx : World} {B gt T R X i : Nat} {q q' : BodD} {v : Value} (h : BM w B gt T R X q wx) (hR : R ≠ X) (hX : X ≠ gt) (hw : w.heap.size ≤ X) (hB : B ≤ X) (hf : (BC q).setIfInBounds i v = BC q') : BM w B gt T R X q' (wx.setCell ⟨X, i, none⟩ v) := by
  have hg : wx.grownBy (wx.setCell ⟨X, i, none⟩ v) (some X) := ⟨rfl, rfl, rfl, by simp [World.setCell], fun k _ hne => Below.heap_setCell wx ⟨X, i, none⟩ v k (fun e => hne (by rw [e]))⟩
  refine ⟨gbB_below h.gb ((Below.refl _ _).setCell (by simpa using hw) _), h.tape.grown hg (fun e => by injection e with e; exact hX e) (fun k hk => by injection hk with hk; omega), h.zero.grown hg (fun e => by injection e with e; exact hR e.symm), ?_⟩
  have := h.bd
  unfold BodAt at this ⊢
  rw [← hf]
  simp [World.setCell, Array.getElem?_modify, this]
def put4W (w : World) (b : Nat) (f : BodD) : World := (((w.setCell ⟨b, 0, none⟩ (.int .i64 f.cel)).setCell ⟨b, 1, none⟩ (.int .i64 f.dst)).setCell ⟨b, 2, none⟩ (.bool f.srv)).setCell ⟨b, 3, none⟩ (.bool f.flt)
theorem BM.done {w wx : World} {B gt T R X : Nat} {f : BodD} (h : BM w B gt T R X f wx) (hR : w.heap.size ≤ R) (hB : B ≤ R) (hg : R ≠ gt) : BodAt (put4W wx R f) R f ∧ TapeOk (put4W wx R f) B gt T ∧ w.grownBy (put4W wx R f) (some gt) := by
  have hb : Below R wx (put4W wx R f) := below_put (below_put (below_put (below_put (Below.refl _ _) (Nat.le_refl _)) (Nat.le_refl _)) (Nat.le_refl _)) (Nat.le_refl _)
  have hgr : wx.grownBy (put4W wx R f) (some R) := by
    have h1 : ∀ (a : World) (i : Nat) (v : Value), a.grownBy (a.setCell ⟨R, i, none⟩ v) (some R) := fun a i v => ⟨rfl, rfl, rfl, by simp [World.setCell], fun k _ hne => Below.heap_setCell a ⟨R, i, none⟩ v k (fun e => hne (by rw [e]))⟩
    exact gbB_next (gbB_next (gbB_next (h1 _ _ _) (h1 _ _ _)) (h1 _ _ _)) (h1 _ _ _)
  exact ⟨h.zero.put4 f, h.tape.grown hgr (fun e => by injection e with e; exact hg e) (fun k hk => by injection hk with hk; omega), gbB_below h.gb (hb.mono hR)⟩
theorem results_bd1 {fn : Func} {p : Tmp} (h : fn.results = #[.cell p 34]) (tmps : Array Value) (w : World) (g : Nat) (s : BodD)
    (hp : tmps.getD p undef = .pointer (some ⟨g, 0, none⟩)) (hg : BodAt w g s) : (results fn tmps).run Try.prog w = .ok (BV s) w := by
  have hp' : tmps[p]?.getD undef = .pointer (some ⟨g, 0, none⟩) := by simpa using hp
  simp [results, h, hp', asAddr, run_loadVar_row w g 34 34 (BC s) (0, 0) _ hg Try.underlying34 rfl (by kernel_rfl)]
/-- A body that law 16 makes: its cells are below c, or none. -/
def MadeBody (c : Nat) (q : BodD) : Prop := -1 ≤ q.cel ∧ q.cel < c ∧ -1 ≤ q.dst ∧ q.dst < c
def BodyPost (w : World) (B gt T c : Nat) (e : Ending) (w' : World) : Prop := ∃ q : BodD, e = .returned (BV q) ∧ MadeBody c q ∧ TapeOk w' B gt (T + 5) ∧ w.grownBy w' (some gt)
end Go.Proofs.Ytmdnkpiihhaoeaa
namespace Go.Proofs.Ytmdnkpiihhaoeaa
open Go Go.RowKit Fl

set_option maxRecDepth 100000 in
set_option maxHeartbeats 1000000 in
theorem floor_c (b : BodD) (w : World) : Calls Try.prog 61 #[BV b] w fun e w' => e = .returned (.bool (floorB b)) ∧ Below w.heap.size w w' := by
  have HB := Lib.hid (below_newB w (.cells (BC b) 34))
  obtain ⟨cel, dst, srv, flt⟩ := b
  go_enter Try.func61, Try.ntmps61
  go_wp2
  go_ret
  exact ⟨gr_bool rfl, HB.out⟩
set_option maxRecDepth 100000 in
set_option maxHeartbeats 1000000 in
theorem transit_c (b : BodD) (w : World) : Calls Try.prog 54 #[BV b] w fun e w' => e = .returned (.bool (floorB b && b.dst != -1)) ∧ Below w.heap.size w w' := by
  have HB := Lib.hid (below_newB w (.cells (BC b) 34))
  have HF := Lib.hid (fun W => floor_c b W)
  have HX := Lib.hid (BodAt.new w b)
  generalize floorB b = z at *
  obtain ⟨cel, dst, srv, flt⟩ := b
  rcases z with _ | _
  · go_enter Try.func54, Try.ntmps54
    go_wp2_with fail
    refine (HF.out _).mono ?_
    rintro e w2 ⟨rfl, hb⟩
    have HB2 := Lib.hid (HB.out.trans (hb.mono HB.out.size))
    clear hb HF
    go_wp2
    go_ret
    exact ⟨rfl, HB2.out⟩
  · go_enter Try.func54, Try.ntmps54
    go_wp2_with fail
    refine (HF.out _).mono ?_
    rintro e w2 ⟨rfl, hb⟩
    have HB2 := Lib.hid (HB.out.trans (hb.mono HB.out.size))
    obtain ⟨x0, x1, x2, x3⟩ := (HX.out.keep hb).cell
    clear hb HF
    go_wp2
    go_ret
    exact ⟨gr_bool rfl, HB2.out⟩
def cellB (c : Int) : Bool := decide (0 ≤ c ∧ c < 48)
set_option maxRecDepth 100000 in
set_option maxHeartbeats 1000000 in
theorem isCell_c (c : Int) (w : World) : Calls Try.prog 55 #[.int .i64 c] w fun e w' => e = .returned (.bool (cellB c)) ∧ Below w.heap.size w w' := by
  have HB := Lib.hid (Below.refl w.heap.size w)
  by_cases h0 : 0 ≤ c
  · go_enter Try.func55, Try.ntmps55
    go_wp2
    go_ret
    exact ⟨gr_bool (by unfold cellB; simp [h0]), HB.out⟩
  · go_enter Try.func55, Try.ntmps55
    go_wp2
    go_ret
    exact ⟨gr_bool (by unfold cellB; rw [decide_eq_false (fun h => by omega)]), HB.out⟩
set_option maxRecDepth 100000 in
set_option maxHeartbeats 1000000 in
theorem resting_c (c : Int) (w : World) : Calls Try.prog 71 #[.int .i64 c] w fun e w' => e = .returned (BV ⟨c, -1, false, false⟩) ∧ Below w.heap.size w w' := by
  have HX := Lib.hid (BodAt.new w ⟨c, -1, false, false⟩)
  have HB := Lib.hid (below_newB w (.cells (BC ⟨c, -1, false, false⟩) 34))
  go_enter Try.func71, Try.ntmps71
  go_wp2
  exact bodyPost_ret (results_bd1 rfl _ _ _ ⟨c, -1, false, false⟩ rfl HX.out) rfl ⟨rfl, HB.out⟩
theorem rest_eq (b : BodD) : (floorB b && decide (b = ⟨b.cel, -1, false, false⟩)) = restB b := by
  obtain ⟨cel, dst, srv, flt⟩ := b
  unfold restB
  by_cases h1 : dst = -1 <;> cases srv <;> cases flt <;> simp [h1]
set_option maxRecDepth 100000 in
set_option maxHeartbeats 1000000 in
theorem atRest_c (b : BodD) (w : World) : Calls Try.prog 57 #[BV b] w fun e w' => e = .returned (.bool (restB b)) ∧ Below w.heap.size w w' := by
  have HB := Lib.hid (below_newB w (.cells (BC b) 34))
  have HF := Lib.hid (fun W => floor_c b W)
  have HG := Lib.hid (fun W => resting_c b.cel W)
  have HX := Lib.hid (BodAt.new w b)
  have HQ := Lib.hid (bod_eq b ⟨b.cel, -1, false, false⟩)
  have HE := Lib.hid (rest_eq b)
  have hgd := guard_bod
  generalize restB b = z at *
  generalize decide (b = ⟨b.cel, -1, false, false⟩) = y at *
  generalize floorB b = x at *
  obtain ⟨cel, dst, srv, flt⟩ := b
  have hE := HE.out
  have hq := HQ.out
  dsimp only at hq
  subst hE
  have HEnd : Hid (∀ W, Below (w.heap.size + 1) (w.alloc (.cells #[.int .i64 cel, .int .i64 dst, .bool srv, .bool flt] 34)) W → Below w.heap.size w W) := Lib.hid (fun W hW => HB.out.trans (hW.mono (by omega)))
  have s1 : (w.alloc (.cells #[.int .i64 cel, .int .i64 dst, .bool srv, .bool flt] 34)).heap.size = w.heap.size + 1 := by simp
  have HK : Hid (∀ W, Below (w.heap.size + 1) (w.alloc (.cells #[.int .i64 cel, .int .i64 dst, .bool srv, .bool flt] 34)) W → W.cell? ⟨w.heap.size, 0, none⟩ = some (.int .i64 cel) ∧ W.cell? ⟨w.heap.size, 1, none⟩ = some (.int .i64 dst) ∧ W.cell? ⟨w.heap.size, 2, none⟩ = some (.bool srv) ∧ W.cell? ⟨w.heap.size, 3, none⟩ = some (.bool flt)) := Lib.hid (fun W hW => (HX.out.keep (s1 ▸ hW)).cell)
  have HF1 : Hid (∀ W, Below (w.heap.size + 1) (w.alloc (.cells #[.int .i64 cel, .int .i64 dst, .bool srv, .bool flt] 34)) W → Calls Try.prog 61 #[.agg #[.int .i64 cel, .int .i64 dst, .bool srv, .bool flt]] W fun e w' => e = .returned (.bool x) ∧ Below (w.heap.size + 1) (w.alloc (.cells #[.int .i64 cel, .int .i64 dst, .bool srv, .bool flt] 34)) w') := Lib.hid (fun W hW => (HF.out W).mono fun e w' h => ⟨h.1, hW.trans (h.2.mono (by have := hW.size; omega))⟩)
  have HG1 : Hid (∀ W, Below (w.heap.size + 1) (w.alloc (.cells #[.int .i64 cel, .int .i64 dst, .bool srv, .bool flt] 34)) W → Calls Try.prog 71 #[.int .i64 cel] W fun e w' => e = .returned (.agg #[.int .i64 cel, .int .i64 (-1), .bool false, .bool false]) ∧ Below (w.heap.size + 1) (w.alloc (.cells #[.int .i64 cel, .int .i64 dst, .bool srv, .bool flt] 34)) w') := Lib.hid (fun W hW => (HG.out W).mono fun e w' h => ⟨h.1, hW.trans (h.2.mono (by have := hW.size; omega))⟩)
  have hb0 : Below (w.heap.size + 1) (w.alloc (.cells #[.int .i64 cel, .int .i64 dst, .bool srv, .bool flt] 34)) (w.alloc (.cells #[.int .i64 cel, .int .i64 dst, .bool srv, .bool flt] 34)) := Below.refl _ _
  obtain ⟨x0, x1, x2, x3⟩ := HK.out _ hb0
  clear HF HG HX HQ HE HB s1
  rcases x with _ | _
  · go_enter Try.func57, Try.ntmps57
    go_wp2_with fail
    generalize w.alloc (.cells #[.int .i64 cel, .int .i64 dst, .bool srv, .bool flt] 34) = w1 at *
    rename_i Q1 K1 hK1
    refine wp_region_noPanic ?_
    refine wp_region_held_drew (S := fun W => W.cell? ⟨w.heap.size, 0, none⟩ = some (.int .i64 cel) ∧ W.cell? ⟨w.heap.size, 1, none⟩ = some (.int .i64 dst) ∧ W.cell? ⟨w.heap.size, 2, none⟩ = some (.bool srv) ∧ W.cell? ⟨w.heap.size, 3, none⟩ = some (.bool flt)) (by kernel_rfl) (HK.out _ (by repeat (first | assumption | (with_reducible refine Below.drew ?_)))) (fun hHeld => ?_)
    refine wpAnyH_take (i := 0) (oi := { dst := some 3, op := Op.load 34 (Operand.tmp 1), type := 34, pos := "plant.go:24", after := #[], guard := none }) (v := ?v0) rfl (by kernel_rfl) (by kernel_rfl) (by kernel_rfl) (fun _ _ _ h => h) (Or.inl ⟨by rfl, ?hy0⟩) (by assumption) ?rest0
    case hy0 => ((intro w hSw; (try dsimp only at hSw); go_simp) <;> (with_reducible rfl))
    try simp only [Act.put, List.setIfInBounds_toArray, List.set_cons_zero, List.set_cons_succ]
    refine wpAnyH_ready (rs := [1]) (by kernel_rfl) (by simp) ?_
    refine (AllReadyH.cons (o := { dst := some 4, op := Op.call { callee := Callee.value (Operand.func 61), args := #[Operand.tmp 3], argTypes := #[34] }, type := 4, pos := "plant.go:24", after := #[{ on := 0, ground := Ground.data }], guard := none }) rfl (fun K hK => ?_) AllReadyH.nil)
    go_simp
    (go_at_call 61; refine (HF1.out _ (by repeat (first | assumption | (with_reducible refine Below.drew ?_)))).mono ?_; rintro e w2 ⟨rfl, hb2⟩)
    go_wp2_with fail
    refine hK.out _ _ ?_ (fun hHeld => ?_)
    · (try dsimp only)
      exact HK.out _ (by repeat (first | assumption | (with_reducible refine Below.drew ?_)))
    clear hK K
    try simp only [Act.put, List.setIfInBounds_toArray, List.set_cons_zero, List.set_cons_succ]
    refine wpAnyH_take (i := 2) (oi := { dst := some 5, op := Op.move (Operand.tmp 4), type := 4, pos := "plant.go:24", after := #[{ on := 1, ground := Ground.data }, { on := 1, ground := Ground.chain }], guard := none }) (v := ?v1) rfl (by kernel_rfl) (by kernel_rfl) (by kernel_rfl) (fun _ _ _ h => h) (Or.inl ⟨by rfl, ?hy1⟩) (by assumption) ?rest1
    case hy1 => ((intro w hSw; (try dsimp only at hSw); go_simp) <;> (with_reducible rfl))
    try simp only [Act.put, List.setIfInBounds_toArray, List.set_cons_zero, List.set_cons_succ]
    refine wpAnyH_take (i := 3) (oi := { dst := some 6, op := Op.load 34 (Operand.tmp 1), type := 34, pos := "plant.go:24", after := #[{ on := 2, ground := Ground.guard }], guard := some (2, true) }) (v := undef) rfl (by kernel_rfl) (by kernel_rfl) (by kernel_rfl) (fun _ _ _ h => h) (Or.inr ⟨by rfl, rfl⟩) (by assumption) ?_
    try simp only [Act.put, List.setIfInBounds_toArray, List.set_cons_zero, List.set_cons_succ]
    refine wpAnyH_take (i := 4) (oi := { dst := some 7, op := Op.fieldAddr 34 (Operand.tmp 1) 0, type := 0, pos := "plant.go:24", after := #[{ on := 2, ground := Ground.guard }], guard := some (2, true) }) (v := undef) rfl (by kernel_rfl) (by kernel_rfl) (by kernel_rfl) (fun _ _ _ h => h) (Or.inr ⟨by rfl, rfl⟩) (by assumption) ?_
    try simp only [Act.put, List.setIfInBounds_toArray, List.set_cons_zero, List.set_cons_succ]
    refine wpAnyH_take (i := 5) (oi := { dst := some 8, op := Op.load 3 (Operand.tmp 7), type := 3, pos := "plant.go:24", after := #[{ on := 4, ground := Ground.data }, { on := 2, ground := Ground.guard }], guard := some (2, true) }) (v := undef) rfl (by kernel_rfl) (by kernel_rfl) (by kernel_rfl) (fun _ _ _ h => h) (Or.inr ⟨by rfl, rfl⟩) (by assumption) ?_
    try simp only [Act.put, List.setIfInBounds_toArray, List.set_cons_zero, List.set_cons_succ]
    refine wpAnyH_take (i := 6) (oi := { dst := some 9, op := Op.call { callee := Callee.value (Operand.func 71), args := #[Operand.tmp 8], argTypes := #[3] }, type := 34, pos := "plant.go:24", after := #[{ on := 5, ground := Ground.data }, { on := 2, ground := Ground.chain }, { on := 2, ground := Ground.guard }], guard := some (2, true) }) (v := undef) rfl (by kernel_rfl) (by kernel_rfl) (by kernel_rfl) (fun _ _ _ h => h) (Or.inr ⟨by rfl, rfl⟩) (by assumption) ?_
    try simp only [Act.put, List.setIfInBounds_toArray, List.set_cons_zero, List.set_cons_succ]
    refine wpAnyH_take (i := 7) (oi := { dst := some 10, op := Op.binOp BinOp.eql 34 (Operand.tmp 6) (Operand.tmp 9) 34, type := 4, pos := "plant.go:24", after := #[{ on := 3, ground := Ground.data }, { on := 6, ground := Ground.data }, { on := 2, ground := Ground.guard }], guard := some (2, true) }) (v := undef) rfl (by kernel_rfl) (by kernel_rfl) (by kernel_rfl) (fun _ _ _ h => h) (Or.inr ⟨by rfl, rfl⟩) (by assumption) ?_
    try simp only [Act.put, List.setIfInBounds_toArray, List.set_cons_zero, List.set_cons_succ]
    refine wpAnyH_take (i := 8) (oi := { dst := some 11, op := Op.pick (Operand.tmp 5) (Operand.tmp 10) (Operand.const (Value.bool false)), type := 4, pos := "plant.go:24", after := #[{ on := 2, ground := Ground.data }, { on := 7, ground := Ground.data }], guard := none }) (v := ?v2) rfl (by kernel_rfl) (by kernel_rfl) (by kernel_rfl) (fun _ _ _ h => h) (Or.inl ⟨by rfl, ?hy2⟩) (by assumption) ?rest2
    case hy2 => ((intro w hSw; (try dsimp only at hSw); go_simp) <;> (with_reducible rfl))
    try simp only [Act.put, List.setIfInBounds_toArray, List.set_cons_zero, List.set_cons_succ]
    refine wpAnyH_take (i := 9) (oi := { dst := some 2, op := Op.assign (Operand.tmp 11), type := 4, pos := "plant.go:24", after := #[{ on := 8, ground := Ground.data }, { on := 6, ground := Ground.chain }, { on := 0, ground := Ground.phase }, { on := 1, ground := Ground.phase }, { on := 2, ground := Ground.phase }, { on := 3, ground := Ground.phase }, { on := 4, ground := Ground.phase }, { on := 5, ground := Ground.phase }, { on := 6, ground := Ground.phase }, { on := 7, ground := Ground.phase }, { on := 8, ground := Ground.phase }], guard := none }) (v := ?v3) rfl (by kernel_rfl) (by kernel_rfl) (by kernel_rfl) (fun _ _ _ h => h) (Or.inl ⟨by rfl, ?hy3⟩) (by assumption) ?rest3
    case hy3 => ((intro w hSw; (try dsimp only at hSw); go_simp) <;> (with_reducible rfl))
    try simp only [Act.put, List.setIfInBounds_toArray, List.set_cons_zero, List.set_cons_succ]
    refine wpAnyH_done (by kernel_rfl) ?_ _
    refine NoPanic.normal ?_
    show K1 _ _
    refine hK1 _ _ ?_
    go_wp2
    go_ret
    exact ⟨rfl, HEnd.out _ (by assumption)⟩
  · go_enter Try.func57, Try.ntmps57
    go_wp2_with fail
    generalize w.alloc (.cells #[.int .i64 cel, .int .i64 dst, .bool srv, .bool flt] 34) = w1 at *
    go_region_held3 (fun W => W.cell? ⟨w.heap.size, 0, none⟩ = some (.int .i64 cel) ∧ W.cell? ⟨w.heap.size, 1, none⟩ = some (.int .i64 dst) ∧ W.cell? ⟨w.heap.size, 2, none⟩ = some (.bool srv) ∧ W.cell? ⟨w.heap.size, 3, none⟩ = some (.bool flt)) (exact HK.out _ (by repeat (first | assumption | (with_reducible refine Below.drew ?_)))) (first | (go_at_call 61; refine (HF1.out _ (by repeat (first | assumption | (with_reducible refine Below.drew ?_)))).mono ?_; rintro e w2 ⟨rfl, hb2⟩) | (go_at_call 71; refine (HG1.out _ (by repeat (first | assumption | (with_reducible refine Below.drew ?_)))).mono ?_; rintro e w3 ⟨rfl, hb3⟩))
    all_goals (try go_wp2)
    all_goals go_ret
    all_goals exact ⟨rfl, HEnd.out _ (by assumption)⟩
end Go.Proofs.Ytmdnkpiihhaoeaa
namespace Go.Proofs.Ytmdnkpiihhaoeaa
open Go Go.RowKit Fl

set_option maxRecDepth 100000 in
set_option maxHeartbeats 2000000 in
theorem cloneB_c (A : Option Addr) (c : Nat) (l : List BodD) (w : World) (hh : Holds w A (bodS.cs l)) (hl : l.length ≤ 5864062014805) :
    Calls Try.prog 70 #[.slice A l.length c] w fun e w' => ∃ u, e = .returned u ∧ bodS.Own w' w.heap.size u l ∧ Below w.heap.size w w' := by
  have hq : ∀ (w : World) (a : Option Addr) (n c n' c' : Nat), (binOp .eql 79 (.slice a n c) (.slice none n' c')).run Try.prog w = .ok (.bool a.isNone) w := fun w a n c n' c' => Lib.run_eql_slice_nil w _ _ a n c n' c' Try.underlying79
  rcases A with _ | ad
  · have hl0 : l = [] := by
      rcases hh with h | ⟨b', o', hA, _⟩
      · have h1 := congrArg List.length h
        rw [bodS.cs_length] at h1
        simp only [List.length_nil] at h1
        rcases Nat.mul_eq_zero.1 h1 with h2 | h2
        · exact List.eq_nil_of_length_eq_zero h2
        · exact absurd h2 (by decide)
      · cases hA
    subst hl0
    have HB := Lib.hid (Below.refl w.heap.size w)
    clear hh
    go_enter Try.func70, Try.ntmps70
    go_wp2
    go_ret
    exact ⟨_, rfl, StK.Own.nil _ _ _, HB.out⟩
  · have HB0 := Lib.hid (below_newB w (.cells #[] 34))
    have HA : Hid (bodS.Arg (w.alloc (.cells #[] 34)) (.slice (some ad) l.length c) l) := Lib.hid (StK.Arg.all (hh.keep HB0.out) c)
    have HO : Hid (bodS.Own (w.alloc (.cells #[] 34)) w.heap.size (.slice (some ⟨w.heap.size, 0, none⟩) 0 0) []) := Lib.hid (World.ownsRow_made w #[] 0 (Nat.le_refl _) (Nat.zero_le _) rfl)
    have hs : w.heap.size ≤ (w.alloc (.cells #[] 34)).heap.size := by simp
    clear hh
    go_enter Try.func70, Try.ntmps70
    go_wp2_with (at_builtin; refine StK.app_moreB (S := bodS) _ rfl _ _ (by rfl) w.heap.size _ [] (by rfl) HO.out _ l (by rfl) HA.out (by simp; unfold maxLen; omega) (by rw [show bodS.bytes = 24 from rfl]; simp; omega) hs ?_)
    intro v2 w2 hO2 hg2
    have HO2 : Hid (bodS.Own w2 w.heap.size v2 l) := Lib.hid hO2
    have HB2 := Lib.hid (HB0.out.grown hg2 hs (fun k hk => by simp [Value.ownBlock] at hk; omega))
    clear hO2 hg2
    go_wp2
    go_ret
    exact ⟨v2, rfl, HO2.out, HB2.out⟩
/-- What change returns, of an action that gives q and ok. -/
def chE (l : List BodD) (r : Int) (ok : Bool) : Int := if 0 ≤ r ∧ r < (l.length : Int) then (if ok = true then 0 else 24) else 19
def chL (l : List BodD) (r : Int) (q : BodD) (ok : Bool) : List BodD := if 0 ≤ r ∧ r < (l.length : Int) then (if ok = true then l.set r.toNat q else []) else []
/-- A function of the program is entered. -/
def Enters (F : Nat) : Prop := ∀ (args : Array Value) (W : World), (callFunc F args).run Try.prog W = .ok (.enter F args) W
theorem enters {F : Nat} {fn : Func} {c : Code} (hf : Try.prog.funcs[F]? = some fn) (hname : (fn.name == "runtime.NumGoroutine") = false) (hb : fn.body = some c) : Enters F := fun args W => by
  have h1 : fn.name ≠ "runtime.NumGoroutine" := by simpa using hname
  simp [callFunc, hf, h1, hb]
set_option maxRecDepth 100000 in
set_option maxHeartbeats 4000000 in
theorem devChange_c (A : Option Addr) (cap n : Nat) (l : List BodD) (hn : l.length = n) (r : Int) (F : Nat) (caps : Array Value) (q : BodD) (ok : Bool) (w : World) (hh : Holds w A (bodS.cs l)) (hn6 : n ≤ 5864062014805) (hcf : Enters F)
    (hF : ∀ W, Below w.heap.size w W → Calls Try.prog F (#[BV (bodAt l r)] ++ caps) W fun e w' => e = .returned (.tuple #[BV q, .bool ok]) ∧ Below W.heap.size W w') :
    Calls Try.prog 52 #[.slice A n cap, .int .i64 r, .func (.func F) #[] caps] w
      fun e w' => ∃ v, e = .returned (.tuple #[v, .int .i64 (chE l r ok)]) ∧ bodS.Own w' w.heap.size v (chL l r q ok) ∧ Below w.heap.size w w' := by
  subst hn
  have HB0 := Lib.hid (Below.refl w.heap.size w)
  by_cases hr : 0 ≤ r ∧ r < (l.length : Int)
  · obtain ⟨E, hE⟩ : ∃ E, chE l r ok = E := ⟨_, rfl⟩
    obtain ⟨L, hL⟩ : ∃ L, chL l r q ok = L := ⟨_, rfl⟩
    rw [hE, hL]
    unfold chE at hE
    unfold chL at hL
    rw [if_pos hr] at hE hL
    obtain ⟨r0, rn⟩ := hr
    obtain ⟨i, rfl⟩ := Int.eq_ofNat_of_zero_le r0
    have hi : i < l.length := by omega
    rw [Int.toNat_natCast] at hL
    obtain ⟨b, o, rfl, _, a1⟩ := StK.holds_at hh hi
    rw [← bodAt_nat hi] at a1
    obtain ⟨x0, x1, x2, x3⟩ := bod_cells a1
    have HF := Lib.hid hF
    have HH := Lib.hid hh
    have HE := Lib.hid hE
    have HL := Lib.hid hL
    clear hF hE hL a1
    generalize bodAt l i = f at *
    obtain ⟨cel, dst, srv, flt⟩ := f
    obtain ⟨qc, qd, qs, qf⟩ := q
    rw [show bodS.k = 4 from rfl] at x0 x1 x2 x3
    dsimp only at x0 x1 x2 x3
    clear hh
    go_enter Try.func52, Try.ntmps52
    go_wp2_with fail
    rw [hcf]
    refine Calls.mono (HF.out _ (Below.refl _ _)) ?_
    rintro e w2 ⟨rfl, hb2⟩
    have HB2 : Hid (Below w.heap.size w (w2.alloc (.cells #[.int .i64 qc, .int .i64 qd, .bool qs, .bool qf] 34))) := Lib.hid (hb2.alloc hb2.size _)
    have HX2 : Hid (BodAt (w2.alloc (.cells #[.int .i64 qc, .int .i64 qd, .bool qs, .bool qf] 34)) w2.heap.size ⟨qc, qd, qs, qf⟩) := Lib.hid (heap_alloc_new w2 _)
    clear hb2 hcf HF x0 x1 x2 x3
    rcases ok with _ | _
    · obtain rfl : 24 = E := HE.out
      obtain rfl : [] = L := HL.out
      clear HE HL
      go_wp2
      go_ret2
      exact ⟨_, rfl, StK.Own.nil _ _ _, HB2.out⟩
    · obtain rfl : 0 = E := HE.out
      obtain rfl : l.set i ⟨qc, qd, qs, qf⟩ = L := HL.out
      clear HE HL
      go_wp2_with fail
      generalize w2.alloc (.cells #[.int .i64 qc, .int .i64 qd, .bool qs, .bool qf] 34) = w3 at *
      generalize w2.heap.size = Y at *
      refine (cloneB_c (some ⟨b, o, none⟩) cap l w3 (HH.out.keep HB2.out) hn6).mono ?_
      rintro e w4 ⟨u, rfl, hO4, hb4⟩
      have hO := hO4.base HB2.out.size
      obtain ⟨g, c2, rfl, hbg, hgw⟩ := hO.blk (by omega)
      have HB4 := Lib.hid (HB2.out.trans (hb4.mono HB2.out.size))
      have HX4 : Hid (BodAt w4 Y ⟨qc, qd, qs, qf⟩) := Lib.hid (HX2.out.keep hb4)
      obtain ⟨y0, y1, y2, y3⟩ := HX4.out.cell
      obtain ⟨ha, hf⟩ := hO.get rfl hi
      obtain ⟨v0, v1, v2, v3⟩ := bod_cells ha
      have f0 : w4.frozen? ⟨g, i * 4, none⟩ = false := hf 0 (by decide)
      have f1 : w4.frozen? ⟨g, i * 4 + 1, none⟩ = false := hf 1 (by decide)
      have f2 : w4.frozen? ⟨g, i * 4 + 2, none⟩ = false := hf 2 (by decide)
      have f3 : w4.frozen? ⟨g, i * 4 + 3, none⟩ = false := hf 3 (by decide)
      rw [show bodS.k = 4 from rfl] at v0 v1 v2 v3
      have HS6 := Lib.hid (hO.set hi ⟨qc, qd, qs, qf⟩)
      have HP6 := Lib.hid (StK.puts_below hbg (bodS.f ⟨qc, qd, qs, qf⟩) w4 (i * bodS.k) HB4.out)
      generalize l[i] = li at *
      obtain ⟨ic, id, is, iff⟩ := li
      dsimp only at v0 v1 v2 v3
      clear ha hf hO hO4 hb4 HX2 HB2 HH
      go_wp2
      go_ret2
      exact ⟨_, rfl, HS6.out, HP6.out⟩
  · have hE : chE l r ok = 19 := if_neg hr
    have hL : chL l r q ok = [] := if_neg hr
    rw [hE, hL]
    clear hE hL hF hh
    by_cases h0 : r < 0
    · go_enter Try.func52, Try.ntmps52
      go_wp2
      go_ret2
      exact ⟨_, rfl, StK.Own.nil _ _ _, HB0.out⟩
    · have h1 : (l.length : Int) ≤ r := by omega
      go_enter Try.func52, Try.ntmps52
      go_wp2
      go_ret2
      exact ⟨_, rfl, StK.Own.nil _ _ _, HB0.out⟩
end Go.Proofs.Ytmdnkpiihhaoeaa
namespace Go.Proofs.Ytmdnkpiihhaoeaa
open Go Go.RowKit Fl

/-- Two new blocks that hold bodies. -/
theorem two_bd (w : World) (q r : BodD) : BodAt ((w.alloc (.cells (BC q) 34)).alloc (.cells (BC r) 34)) (w.heap.size + 1) r ∧ BodAt ((w.alloc (.cells (BC q) 34)).alloc (.cells (BC r) 34)) w.heap.size q ∧ Below w.heap.size w ((w.alloc (.cells (BC q) 34)).alloc (.cells (BC r) 34)) := by
  have h1 := BodAt.new (w.alloc (.cells (BC q) 34)) r
  have h2 := BodAt.new w q
  rw [show (w.alloc (.cells (BC q) 34)).heap.size = w.heap.size + 1 by simp] at h1
  exact ⟨h1, h2.keep (below_newB _ _), (below_newB w _).alloc (by simp) _⟩
theorem BodAt.put3 {w : World} {b : Nat} {c d : Int} {s f : Bool} (h : BodAt w b ⟨c, d, s, f⟩) (z : Bool) : BodAt (w.setCell ⟨b, 3, none⟩ (.bool z)) b ⟨c, d, s, z⟩ := by
  unfold BodAt at h ⊢
  simp [World.setCell, Array.getElem?_modify, h]
set_option maxRecDepth 100000 in
set_option maxHeartbeats 2000000 in
theorem end1_c (b : BodD) (w : World) : Calls Try.prog 53 #[BV b] w fun e w' => e = .returned (.tuple #[BV ⟨b.dst, -1, b.srv, b.flt⟩, .bool (floorB b && b.dst != -1 && !b.flt)]) ∧ Below w.heap.size w w' := by
  have HT := Lib.hid (fun W => transit_c b W)
  generalize (floorB b && b.dst != -1) = u at *
  have HZ := Lib.hid (two_bd w b zeroB)
  obtain ⟨cel, dst, srv, flt⟩ := b
  obtain ⟨g1, g2, g3⟩ := HZ.out
  have HG : Hid (BodAt ((w.alloc (.cells #[.int .i64 cel, .int .i64 dst, .bool srv, .bool flt] 34)).alloc (.cells #[.int .i64 0, .int .i64 0, .bool false, .bool false] 34)) (w.heap.size + 1) zeroB) := Lib.hid g1
  have HQ : Hid (BodAt ((w.alloc (.cells #[.int .i64 cel, .int .i64 dst, .bool srv, .bool flt] 34)).alloc (.cells #[.int .i64 0, .int .i64 0, .bool false, .bool false] 34)) w.heap.size ⟨cel, dst, srv, flt⟩) := Lib.hid g2
  have HB : Hid (Below w.heap.size w ((w.alloc (.cells #[.int .i64 cel, .int .i64 dst, .bool srv, .bool flt] 34)).alloc (.cells #[.int .i64 0, .int .i64 0, .bool false, .bool false] 34))) := Lib.hid g3
  have HB8 : Hid (∀ W, Below w.heap.size w W → ∀ p q r s : Value, Below w.heap.size w ((((W.setCell ⟨w.heap.size + 1, 0, none⟩ p).setCell ⟨w.heap.size + 1, 1, none⟩ q).setCell ⟨w.heap.size + 1, 2, none⟩ r).setCell ⟨w.heap.size + 1, 3, none⟩ s)) := Lib.hid (fun W h p q r s => below_put (below_put (below_put (below_put h (by omega)) (by omega)) (by omega)) (by omega))
  clear g1 g2 g3 HZ
  rcases u with _ | _
  · go_enter Try.func53, Try.ntmps53
    go_wp2_with fail
    generalize ((w.alloc (.cells #[.int .i64 cel, .int .i64 dst, .bool srv, .bool flt] 34)).alloc (.cells #[.int .i64 0, .int .i64 0, .bool false, .bool false] 34)) = w3 at *
    obtain ⟨y0, y1, y2, y3⟩ := HQ.out.cell
    obtain ⟨z0, z1, z2, z3⟩ := HG.out.cell
    have fq := HQ.out.frozen
    have fg := HG.out.frozen
    refine (HT.out _).mono ?_
    rintro e w4 ⟨rfl, hb4⟩
    replace HG := Lib.hid (HG.out.keep hb4)
    replace HQ := Lib.hid (HQ.out.keep hb4)
    replace HB := Lib.hid (HB.out.trans (hb4.mono HB.out.size))
    clear y0 y1 y2 y3 z0 z1 z2 z3 fq fg hb4
    obtain ⟨y0, y1, y2, y3⟩ := HQ.out.cell
    obtain ⟨z0, z1, z2, z3⟩ := HG.out.cell
    have fq := HQ.out.frozen
    have fg := HG.out.frozen
    go_wp2
    exact bodyPost_ret (results_bd rfl _ _ _ ⟨dst, -1, srv, flt⟩ _ rfl (((HG.out.far (X := w.heap.size) (by omega)).far (X := w.heap.size) (by omega)).put4 ⟨dst, -1, srv, flt⟩) rfl) rfl ⟨rfl, HB8.out _ (by repeat (first | exact HB.out | refine below_put ?_ (Nat.le_refl _))) _ _ _ _⟩
  · go_enter Try.func53, Try.ntmps53
    go_wp2_with fail
    generalize ((w.alloc (.cells #[.int .i64 cel, .int .i64 dst, .bool srv, .bool flt] 34)).alloc (.cells #[.int .i64 0, .int .i64 0, .bool false, .bool false] 34)) = w3 at *
    obtain ⟨y0, y1, y2, y3⟩ := HQ.out.cell
    obtain ⟨z0, z1, z2, z3⟩ := HG.out.cell
    have fq := HQ.out.frozen
    have fg := HG.out.frozen
    refine (HT.out _).mono ?_
    rintro e w4 ⟨rfl, hb4⟩
    replace HG := Lib.hid (HG.out.keep hb4)
    replace HQ := Lib.hid (HQ.out.keep hb4)
    replace HB := Lib.hid (HB.out.trans (hb4.mono HB.out.size))
    clear y0 y1 y2 y3 z0 z1 z2 z3 fq fg hb4
    obtain ⟨y0, y1, y2, y3⟩ := HQ.out.cell
    obtain ⟨z0, z1, z2, z3⟩ := HG.out.cell
    have fq := HQ.out.frozen
    have fg := HG.out.frozen
    go_wp2
    exact bodyPost_ret (results_bd rfl _ _ _ ⟨dst, -1, srv, flt⟩ _ rfl (((HG.out.far (X := w.heap.size) (by omega)).far (X := w.heap.size) (by omega)).put4 ⟨dst, -1, srv, flt⟩) rfl) rfl ⟨rfl, HB8.out _ (by repeat (first | exact HB.out | refine below_put ?_ (Nat.le_refl _))) _ _ _ _⟩
set_option maxRecDepth 100000 in
set_option maxHeartbeats 2000000 in
theorem finish1_c (b : BodD) (w : World) : Calls Try.prog 60 #[BV b] w fun e w' => e = .returned (.tuple #[BV ⟨b.cel, b.dst, false, b.flt⟩, .bool (floorB b && b.srv && !b.flt)]) ∧ Below w.heap.size w w' := by
  have HT := Lib.hid (fun W => floor_c b W)
  generalize floorB b = u at *
  have HZ := Lib.hid (two_bd w b zeroB)
  obtain ⟨cel, dst, srv, flt⟩ := b
  obtain ⟨g1, g2, g3⟩ := HZ.out
  have HG : Hid (BodAt ((w.alloc (.cells #[.int .i64 cel, .int .i64 dst, .bool srv, .bool flt] 34)).alloc (.cells #[.int .i64 0, .int .i64 0, .bool false, .bool false] 34)) (w.heap.size + 1) zeroB) := Lib.hid g1
  have HQ : Hid (BodAt ((w.alloc (.cells #[.int .i64 cel, .int .i64 dst, .bool srv, .bool flt] 34)).alloc (.cells #[.int .i64 0, .int .i64 0, .bool false, .bool false] 34)) w.heap.size ⟨cel, dst, srv, flt⟩) := Lib.hid g2
  have HB : Hid (Below w.heap.size w ((w.alloc (.cells #[.int .i64 cel, .int .i64 dst, .bool srv, .bool flt] 34)).alloc (.cells #[.int .i64 0, .int .i64 0, .bool false, .bool false] 34))) := Lib.hid g3
  have HB8 : Hid (∀ W, Below w.heap.size w W → ∀ p q r s : Value, Below w.heap.size w ((((W.setCell ⟨w.heap.size + 1, 0, none⟩ p).setCell ⟨w.heap.size + 1, 1, none⟩ q).setCell ⟨w.heap.size + 1, 2, none⟩ r).setCell ⟨w.heap.size + 1, 3, none⟩ s)) := Lib.hid (fun W h p q r s => below_put (below_put (below_put (below_put h (by omega)) (by omega)) (by omega)) (by omega))
  clear g1 g2 g3 HZ
  rcases u with _ | _
  · go_enter Try.func60, Try.ntmps60
    go_wp2_with fail
    generalize ((w.alloc (.cells #[.int .i64 cel, .int .i64 dst, .bool srv, .bool flt] 34)).alloc (.cells #[.int .i64 0, .int .i64 0, .bool false, .bool false] 34)) = w3 at *
    obtain ⟨y0, y1, y2, y3⟩ := HQ.out.cell
    obtain ⟨z0, z1, z2, z3⟩ := HG.out.cell
    have fq := HQ.out.frozen
    have fg := HG.out.frozen
    refine (HT.out _).mono ?_
    rintro e w4 ⟨rfl, hb4⟩
    replace HG := Lib.hid (HG.out.keep hb4)
    replace HQ := Lib.hid (HQ.out.keep hb4)
    replace HB := Lib.hid (HB.out.trans (hb4.mono HB.out.size))
    clear y0 y1 y2 y3 z0 z1 z2 z3 fq fg hb4
    obtain ⟨y0, y1, y2, y3⟩ := HQ.out.cell
    obtain ⟨z0, z1, z2, z3⟩ := HG.out.cell
    have fq := HQ.out.frozen
    have fg := HG.out.frozen
    go_wp2
    exact bodyPost_ret (results_bd rfl _ _ _ ⟨cel, dst, false, flt⟩ _ rfl ((HG.out.far (X := w.heap.size) (by omega)).put4 ⟨cel, dst, false, flt⟩) rfl) rfl ⟨rfl, HB8.out _ (by repeat (first | exact HB.out | refine below_put ?_ (Nat.le_refl _))) _ _ _ _⟩
  · rcases srv with _ | _
    · go_enter Try.func60, Try.ntmps60
      go_wp2_with fail
      generalize ((w.alloc (.cells #[.int .i64 cel, .int .i64 dst, .bool false, .bool flt] 34)).alloc (.cells #[.int .i64 0, .int .i64 0, .bool false, .bool false] 34)) = w3 at *
      obtain ⟨y0, y1, y2, y3⟩ := HQ.out.cell
      obtain ⟨z0, z1, z2, z3⟩ := HG.out.cell
      have fq := HQ.out.frozen
      have fg := HG.out.frozen
      refine (HT.out _).mono ?_
      rintro e w4 ⟨rfl, hb4⟩
      replace HG := Lib.hid (HG.out.keep hb4)
      replace HQ := Lib.hid (HQ.out.keep hb4)
      replace HB := Lib.hid (HB.out.trans (hb4.mono HB.out.size))
      clear y0 y1 y2 y3 z0 z1 z2 z3 fq fg hb4
      obtain ⟨y0, y1, y2, y3⟩ := HQ.out.cell
      obtain ⟨z0, z1, z2, z3⟩ := HG.out.cell
      have fq := HQ.out.frozen
      have fg := HG.out.frozen
      go_wp2
      exact bodyPost_ret (results_bd rfl _ _ _ ⟨cel, dst, false, flt⟩ _ rfl ((HG.out.far (X := w.heap.size) (by omega)).put4 ⟨cel, dst, false, flt⟩) rfl) rfl ⟨rfl, HB8.out _ (by repeat (first | exact HB.out | refine below_put ?_ (Nat.le_refl _))) _ _ _ _⟩
    · go_enter Try.func60, Try.ntmps60
      go_wp2_with fail
      generalize ((w.alloc (.cells #[.int .i64 cel, .int .i64 dst, .bool true, .bool flt] 34)).alloc (.cells #[.int .i64 0, .int .i64 0, .bool false, .bool false] 34)) = w3 at *
      obtain ⟨y0, y1, y2, y3⟩ := HQ.out.cell
      obtain ⟨z0, z1, z2, z3⟩ := HG.out.cell
      have fq := HQ.out.frozen
      have fg := HG.out.frozen
      refine (HT.out _).mono ?_
      rintro e w4 ⟨rfl, hb4⟩
      replace HG := Lib.hid (HG.out.keep hb4)
      replace HQ := Lib.hid (HQ.out.keep hb4)
      replace HB := Lib.hid (HB.out.trans (hb4.mono HB.out.size))
      clear y0 y1 y2 y3 z0 z1 z2 z3 fq fg hb4
      obtain ⟨y0, y1, y2, y3⟩ := HQ.out.cell
      obtain ⟨z0, z1, z2, z3⟩ := HG.out.cell
      have fq := HQ.out.frozen
      have fg := HG.out.frozen
      go_wp2
      exact bodyPost_ret (results_bd rfl _ _ _ ⟨cel, dst, false, flt⟩ _ rfl ((HG.out.far (X := w.heap.size) (by omega)).put4 ⟨cel, dst, false, flt⟩) rfl) rfl ⟨rfl, HB8.out _ (by repeat (first | exact HB.out | refine below_put ?_ (Nat.le_refl _))) _ _ _ _⟩
end Go.Proofs.Ytmdnkpiihhaoeaa
