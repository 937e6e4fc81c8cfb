/- Contracts of the landed plant package: onFloor, inTransit, isCell, resting, atRest, Footprint. -/
import Derived.Test.YtjbhmeeebacnpaaPnRef
import Derived.Test.YtjbhmeeebacnpaaPnBody
import Derived.Deep.RegionHeld3
import Derived.Deep.DeepCutAuto
namespace Go.Proofs.Ytjbhmeeebacnpaa
open Go Go.RowKit Fl

set_option maxRecDepth 100000 in
set_option maxHeartbeats 1000000 in
theorem floor_c (b : BodD) (w : World) : Calls Try.prog 33 #[BV b] w fun e w' => e = .returned (.bool (floorB b)) ∧ Below w.heap.size w w' := by
  have HB := Lib.hid (below_newB w (.cells (BC b) 40))
  obtain ⟨cel, dst, srv, flt⟩ := b
  go_enter Try.func33, Try.ntmps33
  go_wp2
  go_ret
  exact ⟨gr_bool rfl, HB.out⟩
set_option maxRecDepth 100000 in
set_option maxHeartbeats 1000000 in
theorem transit_c (b : BodD) (w : World) : Calls Try.prog 34 #[BV b] w fun e w' => e = .returned (.bool (floorB b && b.dst != -1)) ∧ Below w.heap.size w w' := by
  have HB := Lib.hid (below_newB w (.cells (BC b) 40))
  have HF := Lib.hid (fun W => floor_c b W)
  have HX := Lib.hid (BodAt.new w b)
  generalize floorB b = z at *
  obtain ⟨cel, dst, srv, flt⟩ := b
  rcases z with _ | _
  · go_enter Try.func34, Try.ntmps34
    go_wp2_with fail
    refine (HF.out _).mono ?_
    rintro e w2 ⟨rfl, hb⟩
    have HB2 := Lib.hid (HB.out.trans (hb.mono HB.out.size))
    clear hb HF
    go_wp2
    go_ret
    exact ⟨rfl, HB2.out⟩
  · go_enter Try.func34, Try.ntmps34
    go_wp2_with fail
    refine (HF.out _).mono ?_
    rintro e w2 ⟨rfl, hb⟩
    have HB2 := Lib.hid (HB.out.trans (hb.mono HB.out.size))
    obtain ⟨x0, x1, x2, x3⟩ := (HX.out.keep hb).cell
    clear hb HF
    go_wp2
    go_ret
    exact ⟨gr_bool rfl, HB2.out⟩
def cellB (c : Int) : Bool := decide (0 ≤ c ∧ c < 48)
set_option maxRecDepth 100000 in
set_option maxHeartbeats 1000000 in
theorem isCell_c (c : Int) (w : World) : Calls Try.prog 40 #[.int .i64 c] w fun e w' => e = .returned (.bool (cellB c)) ∧ Below w.heap.size w w' := by
  have HB := Lib.hid (Below.refl w.heap.size w)
  by_cases h0 : 0 ≤ c
  · go_enter Try.func40, Try.ntmps40
    go_wp2
    go_ret
    exact ⟨gr_bool (by unfold cellB; simp [h0]), HB.out⟩
  · go_enter Try.func40, Try.ntmps40
    go_wp2
    go_ret
    exact ⟨gr_bool (by unfold cellB; rw [decide_eq_false (fun h => by omega)]), HB.out⟩
set_option maxRecDepth 100000 in
set_option maxHeartbeats 1000000 in
theorem resting_c (c : Int) (w : World) : Calls Try.prog 38 #[.int .i64 c] w fun e w' => e = .returned (BV ⟨c, -1, false, false⟩) ∧ Below w.heap.size w w' := by
  have HX := Lib.hid (BodAt.new w ⟨c, -1, false, false⟩)
  have HB := Lib.hid (below_newB w (.cells (BC ⟨c, -1, false, false⟩) 40))
  go_enter Try.func38, Try.ntmps38
  go_wp2
  exact bodyPost_ret (results_bd1 rfl _ _ _ ⟨c, -1, false, false⟩ rfl HX.out) rfl ⟨rfl, HB.out⟩
theorem rest_eq (b : BodD) : (floorB b && decide (b = ⟨b.cel, -1, false, false⟩)) = restB b := by
  obtain ⟨cel, dst, srv, flt⟩ := b
  unfold restB
  by_cases h1 : dst = -1 <;> cases srv <;> cases flt <;> simp [h1]
set_option maxRecDepth 100000 in
set_option maxHeartbeats 1000000 in
theorem atRest_c (b : BodD) (w : World) : Calls Try.prog 39 #[BV b] w fun e w' => e = .returned (.bool (restB b)) ∧ Below w.heap.size w w' := by
  have HB := Lib.hid (below_newB w (.cells (BC b) 40))
  have HF := Lib.hid (fun W => floor_c b W)
  have HG := Lib.hid (fun W => resting_c b.cel W)
  have HX := Lib.hid (BodAt.new w b)
  have HQ := Lib.hid (bod_eq b ⟨b.cel, -1, false, false⟩)
  have HE := Lib.hid (rest_eq b)
  have hgd := guard_bod
  generalize restB b = z at *
  generalize decide (b = ⟨b.cel, -1, false, false⟩) = y at *
  generalize floorB b = x at *
  obtain ⟨cel, dst, srv, flt⟩ := b
  have hE := HE.out
  have hq := HQ.out
  dsimp only at hq
  subst hE
  have HEnd : Hid (∀ W, Below (w.heap.size + 1) (w.alloc (.cells #[.int .i64 cel, .int .i64 dst, .bool srv, .bool flt] 40)) W → Below w.heap.size w W) := Lib.hid (fun W hW => HB.out.trans (hW.mono (by omega)))
  have s1 : (w.alloc (.cells #[.int .i64 cel, .int .i64 dst, .bool srv, .bool flt] 40)).heap.size = w.heap.size + 1 := by simp
  have HK : Hid (∀ W, Below (w.heap.size + 1) (w.alloc (.cells #[.int .i64 cel, .int .i64 dst, .bool srv, .bool flt] 40)) W → W.cell? ⟨w.heap.size, 0, none⟩ = some (.int .i64 cel) ∧ W.cell? ⟨w.heap.size, 1, none⟩ = some (.int .i64 dst) ∧ W.cell? ⟨w.heap.size, 2, none⟩ = some (.bool srv) ∧ W.cell? ⟨w.heap.size, 3, none⟩ = some (.bool flt)) := Lib.hid (fun W hW => (HX.out.keep (s1 ▸ hW)).cell)
  have HF1 : Hid (∀ W, Below (w.heap.size + 1) (w.alloc (.cells #[.int .i64 cel, .int .i64 dst, .bool srv, .bool flt] 40)) W → Calls Try.prog 33 #[.agg #[.int .i64 cel, .int .i64 dst, .bool srv, .bool flt]] W fun e w' => e = .returned (.bool x) ∧ Below (w.heap.size + 1) (w.alloc (.cells #[.int .i64 cel, .int .i64 dst, .bool srv, .bool flt] 40)) w') := Lib.hid (fun W hW => (HF.out W).mono fun e w' h => ⟨h.1, hW.trans (h.2.mono (by have := hW.size; omega))⟩)
  have HG1 : Hid (∀ W, Below (w.heap.size + 1) (w.alloc (.cells #[.int .i64 cel, .int .i64 dst, .bool srv, .bool flt] 40)) W → Calls Try.prog 38 #[.int .i64 cel] W fun e w' => e = .returned (.agg #[.int .i64 cel, .int .i64 (-1), .bool false, .bool false]) ∧ Below (w.heap.size + 1) (w.alloc (.cells #[.int .i64 cel, .int .i64 dst, .bool srv, .bool flt] 40)) w') := Lib.hid (fun W hW => (HG.out W).mono fun e w' h => ⟨h.1, hW.trans (h.2.mono (by have := hW.size; omega))⟩)
  have hb0 : Below (w.heap.size + 1) (w.alloc (.cells #[.int .i64 cel, .int .i64 dst, .bool srv, .bool flt] 40)) (w.alloc (.cells #[.int .i64 cel, .int .i64 dst, .bool srv, .bool flt] 40)) := Below.refl _ _
  obtain ⟨x0, x1, x2, x3⟩ := HK.out _ hb0
  clear HF HG HX HQ HE HB s1
  rcases x with _ | _
  · go_enter Try.func39, Try.ntmps39
    go_wp2_with fail
    generalize w.alloc (.cells #[.int .i64 cel, .int .i64 dst, .bool srv, .bool flt] 40) = w1 at *
    rename_i Q1 K1 hK1
    refine wp_region_noPanic ?_
    refine wp_region_held_drew (S := fun W => W.cell? ⟨w.heap.size, 0, none⟩ = some (.int .i64 cel) ∧ W.cell? ⟨w.heap.size, 1, none⟩ = some (.int .i64 dst) ∧ W.cell? ⟨w.heap.size, 2, none⟩ = some (.bool srv) ∧ W.cell? ⟨w.heap.size, 3, none⟩ = some (.bool flt)) (by kernel_rfl) (HK.out _ (by repeat (first | assumption | (with_reducible refine Below.drew ?_)))) (fun hHeld => ?_)
    refine wpAnyH_take (i := 0) (oi := { dst := some 3, op := Op.load 40 (Operand.tmp 1), type := 40, pos := "plant.go:24", after := #[], guard := none }) (v := ?v0) rfl (by kernel_rfl) (by kernel_rfl) (by kernel_rfl) (fun _ _ _ h => h) (Or.inl ⟨by rfl, ?hy0⟩) (by assumption) ?rest0
    case hy0 => ((intro w hSw; (try dsimp only at hSw); go_simp) <;> (with_reducible rfl))
    try simp only [Act.put, List.setIfInBounds_toArray, List.set_cons_zero, List.set_cons_succ]
    refine wpAnyH_ready (rs := [1]) (by kernel_rfl) (by simp) ?_
    refine (AllReadyH.cons (o := { dst := some 4, op := Op.call { callee := Callee.value (Operand.func 33), args := #[Operand.tmp 3], argTypes := #[40] }, type := 4, pos := "plant.go:24", after := #[{ on := 0, ground := Ground.data }], guard := none }) rfl (fun K hK => ?_) AllReadyH.nil)
    go_simp
    (go_at_call 33; refine (HF1.out _ (by repeat (first | assumption | (with_reducible refine Below.drew ?_)))).mono ?_; rintro e w2 ⟨rfl, hb2⟩)
    go_wp2_with fail
    refine hK.out _ _ ?_ (fun hHeld => ?_)
    · (try dsimp only)
      exact HK.out _ (by repeat (first | assumption | (with_reducible refine Below.drew ?_)))
    clear hK K
    try simp only [Act.put, List.setIfInBounds_toArray, List.set_cons_zero, List.set_cons_succ]
    refine wpAnyH_take (i := 2) (oi := { dst := some 5, op := Op.move (Operand.tmp 4), type := 4, pos := "plant.go:24", after := #[{ on := 1, ground := Ground.data }, { on := 1, ground := Ground.chain }], guard := none }) (v := ?v1) rfl (by kernel_rfl) (by kernel_rfl) (by kernel_rfl) (fun _ _ _ h => h) (Or.inl ⟨by rfl, ?hy1⟩) (by assumption) ?rest1
    case hy1 => ((intro w hSw; (try dsimp only at hSw); go_simp) <;> (with_reducible rfl))
    try simp only [Act.put, List.setIfInBounds_toArray, List.set_cons_zero, List.set_cons_succ]
    refine wpAnyH_take (i := 3) (oi := { dst := some 6, op := Op.load 40 (Operand.tmp 1), type := 40, pos := "plant.go:24", after := #[{ on := 2, ground := Ground.guard }], guard := some (2, true) }) (v := undef) rfl (by kernel_rfl) (by kernel_rfl) (by kernel_rfl) (fun _ _ _ h => h) (Or.inr ⟨by rfl, rfl⟩) (by assumption) ?_
    try simp only [Act.put, List.setIfInBounds_toArray, List.set_cons_zero, List.set_cons_succ]
    refine wpAnyH_take (i := 4) (oi := { dst := some 7, op := Op.fieldAddr 40 (Operand.tmp 1) 0, type := 0, pos := "plant.go:24", after := #[{ on := 2, ground := Ground.guard }], guard := some (2, true) }) (v := undef) rfl (by kernel_rfl) (by kernel_rfl) (by kernel_rfl) (fun _ _ _ h => h) (Or.inr ⟨by rfl, rfl⟩) (by assumption) ?_
    try simp only [Act.put, List.setIfInBounds_toArray, List.set_cons_zero, List.set_cons_succ]
    refine wpAnyH_take (i := 5) (oi := { dst := some 8, op := Op.load 3 (Operand.tmp 7), type := 3, pos := "plant.go:24", after := #[{ on := 4, ground := Ground.data }, { on := 2, ground := Ground.guard }], guard := some (2, true) }) (v := undef) rfl (by kernel_rfl) (by kernel_rfl) (by kernel_rfl) (fun _ _ _ h => h) (Or.inr ⟨by rfl, rfl⟩) (by assumption) ?_
    try simp only [Act.put, List.setIfInBounds_toArray, List.set_cons_zero, List.set_cons_succ]
    refine wpAnyH_take (i := 6) (oi := { dst := some 9, op := Op.call { callee := Callee.value (Operand.func 38), args := #[Operand.tmp 8], argTypes := #[3] }, type := 40, pos := "plant.go:24", after := #[{ on := 5, ground := Ground.data }, { on := 2, ground := Ground.chain }, { on := 2, ground := Ground.guard }], guard := some (2, true) }) (v := undef) rfl (by kernel_rfl) (by kernel_rfl) (by kernel_rfl) (fun _ _ _ h => h) (Or.inr ⟨by rfl, rfl⟩) (by assumption) ?_
    try simp only [Act.put, List.setIfInBounds_toArray, List.set_cons_zero, List.set_cons_succ]
    refine wpAnyH_take (i := 7) (oi := { dst := some 10, op := Op.binOp BinOp.eql 40 (Operand.tmp 6) (Operand.tmp 9) 40, type := 4, pos := "plant.go:24", after := #[{ on := 3, ground := Ground.data }, { on := 6, ground := Ground.data }, { on := 2, ground := Ground.guard }], guard := some (2, true) }) (v := undef) rfl (by kernel_rfl) (by kernel_rfl) (by kernel_rfl) (fun _ _ _ h => h) (Or.inr ⟨by rfl, rfl⟩) (by assumption) ?_
    try simp only [Act.put, List.setIfInBounds_toArray, List.set_cons_zero, List.set_cons_succ]
    refine wpAnyH_take (i := 8) (oi := { dst := some 11, op := Op.pick (Operand.tmp 5) (Operand.tmp 10) (Operand.const (Value.bool false)), type := 4, pos := "plant.go:24", after := #[{ on := 2, ground := Ground.data }, { on := 7, ground := Ground.data }], guard := none }) (v := ?v2) rfl (by kernel_rfl) (by kernel_rfl) (by kernel_rfl) (fun _ _ _ h => h) (Or.inl ⟨by rfl, ?hy2⟩) (by assumption) ?rest2
    case hy2 => ((intro w hSw; (try dsimp only at hSw); go_simp) <;> (with_reducible rfl))
    try simp only [Act.put, List.setIfInBounds_toArray, List.set_cons_zero, List.set_cons_succ]
    refine wpAnyH_take (i := 9) (oi := { dst := some 2, op := Op.assign (Operand.tmp 11), type := 4, pos := "plant.go:24", after := #[{ on := 8, ground := Ground.data }, { on := 6, ground := Ground.chain }, { on := 0, ground := Ground.phase }, { on := 1, ground := Ground.phase }, { on := 2, ground := Ground.phase }, { on := 3, ground := Ground.phase }, { on := 4, ground := Ground.phase }, { on := 5, ground := Ground.phase }, { on := 6, ground := Ground.phase }, { on := 7, ground := Ground.phase }, { on := 8, ground := Ground.phase }], guard := none }) (v := ?v3) rfl (by kernel_rfl) (by kernel_rfl) (by kernel_rfl) (fun _ _ _ h => h) (Or.inl ⟨by rfl, ?hy3⟩) (by assumption) ?rest3
    case hy3 => ((intro w hSw; (try dsimp only at hSw); go_simp) <;> (with_reducible rfl))
    try simp only [Act.put, List.setIfInBounds_toArray, List.set_cons_zero, List.set_cons_succ]
    refine wpAnyH_done (by kernel_rfl) ?_ _
    refine NoPanic.normal ?_
    show K1 _ _
    refine hK1 _ _ ?_
    go_wp2
    go_ret
    exact ⟨rfl, HEnd.out _ (by assumption)⟩
  · go_enter Try.func39, Try.ntmps39
    go_wp2_with fail
    generalize w.alloc (.cells #[.int .i64 cel, .int .i64 dst, .bool srv, .bool flt] 40) = w1 at *
    go_region_held3 (fun W => W.cell? ⟨w.heap.size, 0, none⟩ = some (.int .i64 cel) ∧ W.cell? ⟨w.heap.size, 1, none⟩ = some (.int .i64 dst) ∧ W.cell? ⟨w.heap.size, 2, none⟩ = some (.bool srv) ∧ W.cell? ⟨w.heap.size, 3, none⟩ = some (.bool flt)) (exact HK.out _ (by repeat (first | assumption | (with_reducible refine Below.drew ?_)))) (first | (go_at_call 33; refine (HF1.out _ (by repeat (first | assumption | (with_reducible refine Below.drew ?_)))).mono ?_; rintro e w2 ⟨rfl, hb2⟩) | (go_at_call 38; refine (HG1.out _ (by repeat (first | assumption | (with_reducible refine Below.drew ?_)))).mono ?_; rintro e w3 ⟨rfl, hb3⟩))
    all_goals (try go_wp2)
    all_goals go_ret
    all_goals exact ⟨rfl, HEnd.out _ (by assumption)⟩
end Go.Proofs.Ytjbhmeeebacnpaa
