/- Contract of reach's Mutual. -/
import Derived.Test.YtcpoojlhfebcmaaMjC
import Derived.Laws.StructEq
import Derived.Deep.MidRow
import Derived.Deep.RegionWith
namespace Go.Proofs.Ytcpoojlhfebcmaa
open Go Go.RowKit Fl

/-! ### Arrays of bools are compared -/
theorem all_range_eqB : ∀ (xs ys : List Bool), xs.length = ys.length → ((List.range xs.length).all fun i => xs.getD i false == ys.getD i false) = (xs == ys)
  | [], [], _ => rfl
  | x :: xs, y :: ys, h => by
    have ih := all_range_eqB xs ys (by simpa using h)
    rw [List.length_cons, List.range_succ_eq_map, List.all_cons, List.all_map]
    simp only [List.getD_cons_zero, Function.comp_def, List.getD_cons_succ, ih]
    simp [List.cons_beq_cons]
  | [], _ :: _, h => by simp at h
  | _ :: _, [], h => by simp at h
theorem equalIn_bools (w : World) (d : Nat) (n : Nat) (t e : TypeId) (ht : Try.prog.underlying t = some (.array n e)) (he : Try.prog.underlying e = some .bool) (hsz : ∀ w, (sizeOf e).run Try.prog w = .ok 1 w)
    (xs ys : List Bool) (hx : xs.length = n) (hy : ys.length = n) :
    (Op.equalIn (d + 2) t (.agg (xs.map Bo).toArray) (.agg (ys.map Bo).toArray)).run Try.prog w = .ok (xs == ys) w := by
  rw [← all_range_eqB xs ys (hx.trans hy.symm), hx, List.range_eq_range', Op.equalIn]
  simp only [Sem.run_bind, run_underlying ht, Result.andThen_ok, hsz, Std.Legacy.Range.forIn_eq_forIn_range', Std.Legacy.Range.size, Nat.sub_zero, Nat.add_sub_cancel, Nat.div_one]
  have hl : ∀ i ∈ List.range' 0 n 1, i < n := fun i hi => by simpa using (List.mem_range'_1.1 hi).2
  generalize List.range' 0 n 1 = l at hl ⊢
  induction l with
  | nil => simp
  | cons i l ih =>
    have hi : i < n := hl i (by simp)
    have px : (part e (xs.map Bo).toArray (i * 1)).run Try.prog w = .ok (Bo (xs.getD i false)) w := by
      simp [part, isAgg, run_underlying he, List.getD, List.getElem?_eq_getElem (show i < xs.length by omega)]
    have py : (part e (ys.map Bo).toArray (i * 1)).run Try.prog w = .ok (Bo (ys.getD i false)) w := by
      simp [part, isAgg, run_underlying he, List.getD, List.getElem?_eq_getElem (show i < ys.length by omega)]
    have pe : (Op.equalIn (d + 1) e (Bo (xs.getD i false)) (Bo (ys.getD i false))).run Try.prog w = .ok (xs.getD i false == ys.getD i false) w := run_equalIn_bool w d e _ _ he
    simp only [List.forIn_cons, Sem.run_bind, px, py, pe, Result.andThen_ok, List.all_cons]
    cases hb : (xs.getD i false == ys.getD i false)
    · simp
    · simp only [Bool.not_true, Bool.false_eq_true, if_false, Sem.run_pure, Result.andThen_ok, Bool.true_and]
      exact ih fun j hj => hl j (by simp [hj])
theorem neq_marks (w : World) (xs ys : List Bool) (hx : xs.length = 24) (hy : ys.length = 24) : (binOp .neq 61 (.agg (xs.map Bo).toArray) (.agg (ys.map Bo).toArray)).run Try.prog w = .ok (.bool (!(xs == ys))) w := by
  obtain ⟨i0, hi, hz0, hz1, hz2⟩ := info_parts Try.infoBoolC
  rw [run_neq_struct, equalIn_bools w 9998 24 _ _ Try.undM (by kernel_rfl) (fun w => by simp [sizeOf, typeInfo, hi, hz1]) xs ys hx hy]
  rfl
theorem equal_none (w : World) (xs : List Bool) (hx : xs.length = 24) : (Op.equalIn 10000 61 (.agg (cellsM xs)) (.agg #[.bool false, .bool false, .bool false, .bool false, .bool false, .bool false, .bool false, .bool false, .bool false, .bool false, .bool false, .bool false, .bool false, .bool false, .bool false, .bool false, .bool false, .bool false, .bool false, .bool false, .bool false, .bool false, .bool false, .bool false])).run Try.prog w = .ok (xs == (mk24 fun _ => false)) w := by
  obtain ⟨i0, hi, hz0, hz1, hz2⟩ := info_parts Try.infoBoolC
  exact equalIn_bools w 9998 24 _ _ Try.undM (by kernel_rfl) (fun w => by simp [sizeOf, typeInfo, hi, hz1]) xs (mk24 fun _ => false) hx (mk24_length _)
theorem guard_marks (w : World) (x y : Operand) (xs ys : Array Value) : (eqGuard .neq 61 x y (.agg xs) (.agg ys)).run Try.prog w = .ok () w := run_eqGuard_agg w _ _ _ _ _ _ (by kernel_rfl)
/-! ### What the comparisons mean -/
theorem openM_get {s : List Bool} {k : Nat} (h : k < (openM s).length) : (openM s)[k] = (decide (k < s.length) && !atB s k) := mk24_at (f := fun v => decide (v < s.length) && !atB s v) h
theorem atB_not {s : List Bool} {n x : Nat} (h : x < n) : atB ((List.range n).map fun v => !atB s v) x = !atB s x := by
  rw [atB_at (by simpa using h)]
  simp
theorem padM_out {M : List Bool} {k : Nat} (hk : M.length ≤ k) (h : k < (padM M).length) : (padM M)[k] = false := by
  have e : (padM M)[k]? = (List.replicate (24 - M.length) false)[k - M.length]? := List.getElem?_append_right hk
  rw [List.getElem?_eq_getElem h, List.getElem?_replicate] at e
  split at e
  · injection e
  · cases e
theorem openM_pad {s : List Bool} (hl : s.length ≤ 24) : openM s = padM ((List.range s.length).map fun v => !atB s v) := by
  refine List.ext_getElem (by rw [openM_length, padM_length (by simpa using hl)]) fun i h1 h2 => ?_
  rw [openM_get]
  by_cases hi : i < s.length
  · rw [padM_at (by simpa using hi)]
    simp [hi]
  · rw [padM_out (by simpa using hi)]
    simp [hi]
theorem padM_inj {M M' : List Bool} (h : padM M = padM M') (hl : M.length = M'.length) : M = M' := (List.append_inj h hl).1
theorem reach_all {g : GraphD} {s : List Bool} {v : Nat} (hsl : s.length = g.length) (hl : g.length ≤ 24) : padM (reachL g s v) = openM s ↔ ∀ x, x < g.length → atB s x = false → PathG g s v x := by
  rw [openM_pad (by omega)]
  constructor
  · intro h x hx hs
    have e := padM_inj h (by rw [reachL_length, List.length_map, List.length_range, hsl])
    have h1 := (reachL_at (s := s) (v := v) hx)
    rw [e] at h1
    exact h1.1 (by rw [atB_not (by omega), hs]; rfl)
  · intro h
    congr 1
    refine (reachL_eq (by simp; omega) fun x hx => ?_).symm
    rw [atB_not (by omega)]
    constructor
    · intro h1; exact h x hx (by simpa using h1)
    · intro h1; have h2 := h1.right.2; rw [h2]; rfl
theorem open_some {s : List Bool} (hl : s.length ≤ 24) : openM s = (mk24 fun _ => false) ↔ ∀ x, x < s.length → atB s x = true := by
  constructor
  · intro h x hx
    have h1 : (openM s)[x]'(by rw [openM_length]; omega) = false := by
      have : (openM s)[x]? = some false := by rw [h, List.getElem?_eq_getElem (by rw [mk24_length]; omega), mk24_at]
      rw [List.getElem?_eq_getElem (by rw [openM_length]; omega)] at this
      injection this
    rw [openM_get] at h1
    simpa [hx] using h1
  · intro h
    unfold openM
    refine mk24_congr fun i _ => ?_
    by_cases hi : i < s.length
    · simp [h i hi]
    · simp [hi]
theorem marks_S {w : World} {Y k : Nat} {O : List Bool} {b : Bool} (h : MarksAt w Y O) (hk : O[k]? = some b) : w.cell? ⟨Y, k, none⟩ = some (.bool b) ∧ w.rangeAt Y 0 (O.map Bo) := by
  obtain ⟨hlt, he⟩ := List.getElem?_eq_some_iff.1 hk
  refine ⟨by rw [(h.cell hlt).1, he], fun j v hv => ?_⟩
  obtain ⟨hj, hv⟩ := List.getElem?_eq_some_iff.1 hv
  have hj' : j < O.length := by simpa using hj
  rw [show (⟨Y, 0 + j, none⟩ : Addr) = ⟨Y, j, none⟩ by simp, (h.cell hj').1, ← hv]
  simp
theorem MarksAt.drewN {w : World} {G : Nat} {l : List Bool} (h : MarksAt w G l) (n : Nat) : MarksAt (w.drewN n) G l := h
theorem MarksAt.drew' {w : World} {G : Nat} {l : List Bool} (h : MarksAt w G l) : MarksAt w.drew G l := h
theorem cells_from {w : World} {Y : Nat} {O : List Bool} (h : MarksAt w Y O) (hl : O.length = 24) : (loadCellsFrom ⟨Y, 0, none⟩ 0 24 #[]).run Try.prog w = .ok (O.map Bo).toArray w := by
  have h := run_loadCells_list (P := Try.prog) w ⟨Y, 0, none⟩ (O.map Bo) (fun j v hv => by
    rw [Addr.add_mid]
    obtain ⟨hj, hv⟩ := List.getElem?_eq_some_iff.1 hv
    have hj' : j < O.length := by simpa using hj
    rw [show (⟨Y, 0 + j, none⟩ : Addr) = ⟨Y, j, none⟩ by simp, (h.cell hj').1, ← hv]
    simp)
  rw [List.length_map, hl] at h
  exact h
set_option maxRecDepth 100000 in
set_option maxHeartbeats 4000000 in
theorem devMutual_c : DevMutual := by
  intro A B c d g s w hh hs hsz
  have CC := Lib.hid (devCheck_c A B c d s.length g w hh hsz.1 hsz.2)
  by_cases h0 : chkG g s.length = 0
  · have hv : validG g = true ∧ s.length = g.length := by
      rcases chkG_cases g s.length with h | h | h
      · exact h.2
      · omega
      · omega
    rw [h0] at CC ⊢
    have hl24 := validG_len hv.1
    have HSL := Lib.hid hv.2
    have CO := Lib.hid (openR_c B d s w hs (by omega))
    have CR := Lib.hid (fun W (v : Nat) (hW : Below w.heap.size w W) hvn => reached_c A c g s v W (hh.keep hW) hv.1 hv.2 hvn)
    have HT : Hid (mutP g s → mutB g s = true) := Lib.hid (fun h => (mutB_iff g s).2 ⟨h0, h⟩)
    have HF : Hid (¬ mutP g s → mutB g s = false) := Lib.hid (fun h => mutB_no fun h2 => h h2.2)
    have HRA := Lib.hid (fun (v : Nat) => reach_all (g := g) (s := s) (v := v) hv.2 hl24)
    have HOS := Lib.hid (open_some (s := s) (by omega))
    have HOC : Hid (∀ k, k < g.length → (openM s)[k]? = some (!atB s k)) := Lib.hid (fun k hk => by
      have h := HSL.out
      rw [List.getElem?_eq_getElem (by rw [openM_length]; omega), openM_get, decide_eq_true (by omega), Bool.true_and])
    have HON := Lib.hid (openM_length s)
    have HRN : Hid (∀ v, (padM (reachL g s v)).length = 24) := Lib.hid (fun v => padM_length (by rw [reachL_length]; exact hl24))
    clear hh hs h0 hv hsz
    generalize mutB g s = res at *
    go_enter Try.func19, Try.ntmps19
    go_wp2_with fail
    refine CC.out.mono ?_
    rintro e w1 ⟨rfl, rfl⟩
    go_wp2_with fail
    refine CO.out.mono ?_
    rintro e w1 ⟨rfl, hb1⟩
    have HN := Lib.hid (marks_new w1)
    have HN2 := Lib.hid (HN.out.row (l' := openM s))
    have HB := Lib.hid (below_row (hb1.alloc hb1.size (.cells #[.bool false, .bool false, .bool false, .bool false, .bool false, .bool false, .bool false, .bool false, .bool false, .bool false, .bool false, .bool false, .bool false, .bool false, .bool false, .bool false, .bool false, .bool false, .bool false, .bool false, .bool false, .bool false, .bool false, .bool false] 61)) hb1.size (cellsM (openM s)))
    have HYW := Lib.hid hb1.size
    clear hb1 CC CO
    go_wp2_with (first | refine store_marks rfl _ _ rfl _ rfl rfl HN.out (mk24_length _) HON.out ?_)
    clear HN
    generalize (w1.alloc (.cells #[.bool false, .bool false, .bool false, .bool false, .bool false, .bool false, .bool false, .bool false, .bool false, .bool false, .bool false, .bool false, .bool false, .bool false, .bool false, .bool false, .bool false, .bool false, .bool false, .bool false, .bool false, .bool false, .bool false, .bool false] 61)).setRow w1.heap.size (cellsM (openM s)) = w2 at *
    generalize w1.heap.size = Y at *
    go_loopw [19] (fun i wr => ∃ (k : Nat), i = .int .i64 k ∧ k ≤ g.length ∧ Hid (∀ u, u < k → atB s u = false → ∀ x, x < g.length → atB s x = false → PathG g s u x) ∧ Hid (MarksAt wr Y (openM s)) ∧ Hid (Below w.heap.size w wr)) (fun i _ => g.length - (intOf i).toNat)
    case atStart => exact ⟨0, rfl, Nat.zero_le _, Lib.hid (fun u hu => by omega), HN2, HB⟩
    case round =>
      clear HN2 HB
      obtain ⟨k, rfl, hk, HP, HM, HB⟩ := hrel
      by_cases hlt : k < g.length
      · have hk24 : k < 24 := by omega
        have hok := HOC.out k hlt
        rcases hsk : atB s k with _ | _
        · rw [hsk] at hok
          have hS := marks_S HM.out hok
          have hu := Try.undM
          have hi : (Try.prog.info? 61).map (·.size) = some ((openM s).map Bo).length := by rw [List.length_map, HON.out]; exact Try.sizeM
          have HKeep : Hid (∀ W, MarksAt W Y (openM s) → W.cell? ⟨Y, k, none⟩ = some (.bool true) ∧ W.rangeAt Y 0 ((openM s).map Bo)) := Lib.hid (fun W h => marks_S h hok)
          have hg1 := fun W (x y : Operand) (xs ys : Array Value) => guard_marks W x y xs ys
          have hne : ∀ W, (binOp .neq 61 (.agg ((padM (reachL g s k)).map Bo).toArray) (.agg ((openM s).map Bo).toArray)).run Try.prog W = .ok (.bool (!(padM (reachL g s k) == openM s))) W := fun W => neq_marks W _ _ (HRN.out k) HON.out
          have HCk : Hid (∀ W, Below w.heap.size w W → Calls Try.prog 31 #[.slice A g.length c, .agg ((openM s).map Bo).toArray, .int .i64 k] W fun e w' => e = .returned (.agg ((padM (reachL g s k)).map Bo).toArray) ∧ Below W.heap.size W w') := Lib.hid (fun W hW => CR.out W k hW hlt)
          obtain ⟨bb, hbb⟩ : ∃ bb, (!(padM (reachL g s k) == openM s)) = bb := ⟨_, rfl⟩
          have HBv : Hid (bb = false ↔ ∀ x, x < g.length → atB s x = false → PathG g s k x) := Lib.hid (by rw [← HRA.out k, ← hbb]; simp)
          rw [hbb] at hne
          clear HRA CR HOC hok hbb
          generalize padM (reachL g s k) = R at *
          go_wp2_with fail
          have hk24i : (k : Int) < 24 := by omega
          have hk0i : (0 : Int) ≤ (k : Int) := by omega
          refine wp_region_noPanic ?_
          refine wp_region_held_drew (S := fun W => W.cell? ⟨Y, k, none⟩ = some (.bool true) ∧ W.rangeAt Y 0 ((openM s).map Bo)) (by kernel_rfl) (HKeep.out _ HM.out.drew') (fun hHeld => ?_)
          refine wpAnyH_take (i := 0) (oi := _) (v := ?_) rfl (by kernel_rfl) (by kernel_rfl) (by kernel_rfl) (fun _ _ _ h => h) (Or.inl ⟨by rfl, ?_⟩) (by assumption) ?_
          rotate_left
          · intro w hSw
            (try dsimp only at hSw)
            go_simp
            (try with_reducible rfl)
          (try simp only [Act.put])
          refine wpAnyH_take (i := 1) (oi := _) (v := ?_) rfl (by kernel_rfl) (by kernel_rfl) (by kernel_rfl) (fun _ _ _ h => h) (Or.inl ⟨by rfl, ?_⟩) (by assumption) ?_
          rotate_left
          · intro w hSw
            (try dsimp only at hSw)
            go_simp
            (try with_reducible rfl)
          (try simp only [Act.put])
          refine wpAnyH_take (i := 2) (oi := _) (v := ?_) rfl (by kernel_rfl) (by kernel_rfl) (by kernel_rfl) (fun _ _ _ h => h) (Or.inl ⟨by rfl, ?_⟩) (by assumption) ?_
          rotate_left
          · intro w hSw
            (try dsimp only at hSw)
            go_simp
            (try with_reducible rfl)
          (try simp only [Act.put])
          refine wpAnyH_take (i := 3) (oi := _) (v := ?_) rfl (by kernel_rfl) (by kernel_rfl) (by kernel_rfl) (fun _ _ _ h => h) (Or.inl ⟨by rfl, ?_⟩) (by assumption) ?_
          rotate_left
          · intro w hSw
            (try dsimp only at hSw)
            go_simp
            (try with_reducible rfl)
          (try simp only [Act.put])
          refine wpAnyH_take (i := 4) (oi := _) (v := ?_) rfl (by kernel_rfl) (by kernel_rfl) (by kernel_rfl) (fun _ _ _ h => h) (Or.inl ⟨by rfl, ?_⟩) (by assumption) ?_
          rotate_left
          · intro w hSw
            (try dsimp only at hSw)
            go_simp
            (try with_reducible rfl)
          (try simp only [Act.put])
          refine wpAnyH_take (i := 5) (oi := _) (v := _) rfl (by kernel_rfl) (by kernel_rfl) (by kernel_rfl) (fun _ _ _ h => h) (yieldsIf_load_mid (by rfl) _ _ rfl _ _ rfl _ _ (fun w hw => hw.2) hu rfl hi) (by assumption) ?_
          (try simp only [Act.put])
          refine wpAnyH_take (i := 6) (oi := _) (v := ?_) rfl (by kernel_rfl) (by kernel_rfl) (by kernel_rfl) (fun _ _ _ h => h) (Or.inl ⟨by rfl, ?_⟩) (by assumption) ?_
          rotate_left
          · intro w hSw
            (try dsimp only at hSw)
            go_simp
            (try with_reducible rfl)
          (try simp only [Act.put])
          refine wpAnyH_take (i := 8) (oi := _) (v := _) rfl (by kernel_rfl) (by kernel_rfl) (by kernel_rfl) (fun _ _ _ h => h) (yieldsIf_load_mid (by rfl) _ _ rfl _ _ rfl _ _ (fun w hw => hw.2) hu rfl hi) (by assumption) ?_
          (try simp only [Act.put])
          refine wpAnyH_ready (rs := [7]) (by kernel_rfl) (by simp) ?_
          refine AllReadyH.cons (o := _) rfl (fun K hK => ?_) AllReadyH.nil
          go_simp
          go_at_call 31
          refine (HCk.out _ (HB.out.drew)).mono ?_
          rintro e w3 ⟨rfl, hb3⟩
          have HM3 := Lib.hid (MarksAt.keep HM.out.drew' hb3 HM.out.drew'.lt)
          have HB3 := Lib.hid (HB.out.drew.trans (hb3.mono HB.out.size))
          clear hb3
          go_wp2_with fail
          refine hK.out _ _ (HKeep.out _ HM3.out) (fun hHeld => ?_)
          clear hK K
          (try simp only [Act.put])
          refine wpAnyH_take (i := 9) (oi := _) (v := ?_) rfl (by kernel_rfl) (by kernel_rfl) (by kernel_rfl) (fun _ _ _ h => h) (Or.inl ⟨by rfl, ?_⟩) (by assumption) ?_
          rotate_left
          · intro w hSw
            (try dsimp only at hSw)
            go_simp
            (try with_reducible rfl)
          (try simp only [Act.put])
          refine wpAnyH_take (i := 10) (oi := _) (v := ?_) rfl (by kernel_rfl) (by kernel_rfl) (by kernel_rfl) (fun _ _ _ h => h) (Or.inl ⟨by rfl, ?_⟩) (by assumption) ?_
          rotate_left
          · intro w hSw
            (try dsimp only at hSw)
            go_simp
            (try with_reducible rfl)
          (try simp only [Act.put])
          refine wpAnyH_done (by kernel_rfl) ?_ _
          refine NoPanic.normal ?_
          rcases bb with _ | _
          · have HP2 : Hid (∀ u, u < k + 1 → atB s u = false → ∀ x, x < g.length → atB s x = false → PathG g s u x) := Lib.hid (fun u hu h1 => by
              rcases Nat.lt_succ_iff_lt_or_eq.1 hu with h | rfl
              · exact HP.out u h h1
              · exact HBv.out.1 rfl)
            clear hsk HP HBv hHeld hu hi hne hg1 hS HKeep HCk HM HB
            go_wp2
            go_roundw
            case rel => exact ⟨k + 1, by go_num, by omega, HP2, HM3, HB3⟩
            case measure => simp [intOf]; omega
          · have HN : Hid (res = false) := Lib.hid (HF.out fun h => by
              have := HBv.out.2 (fun x hx hs => h.2 k x hlt hx hsk hs)
              cases this)
            clear hsk HP HBv hHeld hu hi hne hg1 hS HKeep HCk HM HB
            go_wp2
            go_ret2
            exact ⟨by rw [HN.out]; rfl, HB3.out⟩
        · rw [hsk] at hok
          have ec := (marks_S HM.out hok).1
          have HP2 : Hid (∀ u, u < k + 1 → atB s u = false → ∀ x, x < g.length → atB s x = false → PathG g s u x) := Lib.hid (fun u hu h1 => by
            rcases Nat.lt_succ_iff_lt_or_eq.1 hu with h | rfl
            · exact HP.out u h h1
            · rw [hsk] at h1; cases h1)
          clear hsk hok HP
          go_wp2_with fail
          go_quiet (fail)
          have HM2 := Lib.hid (HM.out.drewN nq)
          have HB2 := Lib.hid (below_drewN HB.out nq)
          go_wp2
          go_roundw
          case rel => exact ⟨k + 1, by go_num, by omega, HP2, HM2, HB2⟩
          case measure => simp [intOf]; omega
      · obtain rfl : k = g.length := by omega
        obtain ⟨bb, hbb⟩ : ∃ bb, (!(openM s == (mk24 fun _ => false))) = bb := ⟨_, rfl⟩
        have HBv : Hid (bb = false ↔ ∀ x, x < s.length → atB s x = true) := Lib.hid (by rw [← HOS.out, ← hbb]; simp)
        have hne : ∀ W, (Op.equalIn 10000 61 (.agg (cellsM (openM s))) (.agg #[.bool false, .bool false, .bool false, .bool false, .bool false, .bool false, .bool false, .bool false, .bool false, .bool false, .bool false, .bool false, .bool false, .bool false, .bool false, .bool false, .bool false, .bool false, .bool false, .bool false, .bool false, .bool false, .bool false, .bool false])).run Try.prog W = .ok (!bb) W := fun W => by
          rw [← hbb, Bool.not_not]
          exact equal_none W _ HON.out
        have HRes : Hid (res = bb) := Lib.hid (by
          have hsl := HSL.out
          rcases bb with _ | _
          · exact HF.out fun h => by
              obtain ⟨v, hv, hv0⟩ := h.1
              have := HBv.out.1 rfl v (by omega)
              rw [hv0] at this; cases this
          · refine HT.out ⟨?_, fun u x hu hx hu0 hx0 => HP.out u hu hu0 x hx hx0⟩
            apply Classical.byContradiction
            intro hno
            have hall : ∀ x, x < s.length → atB s x = true := fun x hx => by
              rcases e : atB s x with _ | _
              · exact absurd ⟨x, by omega, e⟩ hno
              · rfl
            have := HBv.out.2 hall
            cases this)
        clear hbb HBv HP
        go_wp2_with (refine load_marks rfl _ rfl _ rfl HM.out HON.out ?_)
        go_ret2
        exact ⟨by rw [HRes.out]; rfl, HB.out⟩
  · have hcase : chkG g s.length = 19 ∨ chkG g s.length = 20 := by
      rcases chkG_cases g s.length with h | h | h
      · exact absurd h.1 h0
      · exact .inl h
      · exact .inr h
    have HE := Lib.hid (mutB_no (g := g) (s := s) fun h => h0 h.1)
    clear hh hs h0 hsz
    rcases hcase with h | h
    all_goals
      rw [h] at CC ⊢
      clear h
      go_enter Try.func19, Try.ntmps19
      go_wp2_with fail
      refine CC.out.mono ?_
      rintro e w1 ⟨rfl, rfl⟩
      go_wp2
      go_ret2
      exact ⟨by rw [HE.out]; rfl, Below.refl _ _⟩
end Go.Proofs.Ytcpoojlhfebcmaa
