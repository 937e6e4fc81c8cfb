/- Joined texts. -/
import Derived.Test.YtgjnhefmheefbaaDoorMjE
import Derived.Test.YtgjnhefmheefbaaDoorMjA
import Derived.OwnWalk
import Derived.Test.YtgjnhefmheefbaaDoorFdDigits
import Derived.Deep.DeepCutAuto
import Derived.BigRegion
import Derived.RegionTactic
import Derived.StillTailTactics
import Derived.Test.YtgjnhefmheefbaaDoorMjC
namespace Go.Proofs.YtgjnhefmheefbaaDoor
open Go.RowKit Fl
attribute [local go_sem] bget

theorem shapeN_le (k : Int) : shapeN k ≤ 3 := by
  unfold shapeN
  repeat' split
  all_goals omega
theorem wordN_out {n : Int} (h : n < 1 ∨ 6 < n) : wordN n = 0 := by
  unfold wordN
  repeat' split
  all_goals omega
set_option maxRecDepth 100000 in
set_option maxHeartbeats 4000000 in
theorem refValid_c (d : DeclD) (A1 A2 : Option Addr) (c1 c2 : Nat) (w : World) (hn : Holds w A1 (d.names.map S)) (hx : Holds w A2 (d.nums.map I)) (hl1 : d.names.length ≤ 8796093021952) (hl2 : d.nums.length ≤ 1000000000000000000) (hs : ∀ f ∈ d.names, f.length ≤ maxLen) :
    Calls Tryd.prog 11 #[.agg #[.int .i64 d.word, .int .i64 d.line, .slice A1 d.names.length c1, .slice A2 d.nums.length c2]] w fun e w' => e = .returned (.bool (validB d)) ∧ Below w.heap.size w w' := by
  obtain ⟨dw, dl, ns, xs⟩ := d
  simp only at hn hx hl1 hl2 hs ⊢
  have hb0 : Below w.heap.size w (w.alloc (.cells #[.int .i64 dw, .int .i64 dl, .slice A1 ns.length c1, .slice A2 xs.length c2] 47)) := (Below.refl _ _).alloc (Nat.le_refl _) _
  have hD0 : (w.alloc (.cells #[.int .i64 dw, .int .i64 dl, .slice A1 ns.length c1, .slice A2 xs.length c2] 47)).heap[w.heap.size]? = some (.cells #[.int .i64 dw, .int .i64 dl, .slice A1 ns.length c1, .slice A2 xs.length c2] 47 (0, 0)) := heap_alloc_new _ _
  have d0 : (w.alloc (.cells #[.int .i64 dw, .int .i64 dl, .slice A1 ns.length c1, .slice A2 xs.length c2] 47)).cell? ⟨w.heap.size, 0, none⟩ = some (.int .i64 dw) := by rw [cell_of_row _ _ _ _ _ _ hD0]; rfl
  have d2 : (w.alloc (.cells #[.int .i64 dw, .int .i64 dl, .slice A1 ns.length c1, .slice A2 xs.length c2] 47)).cell? ⟨w.heap.size, 2, none⟩ = some (.slice A1 ns.length c1) := by rw [cell_of_row _ _ _ _ _ _ hD0]; rfl
  have d3 : (w.alloc (.cells #[.int .i64 dw, .int .i64 dl, .slice A1 ns.length c1, .slice A2 xs.length c2] 47)).cell? ⟨w.heap.size, 3, none⟩ = some (.slice A2 xs.length c2) := by rw [cell_of_row _ _ _ _ _ _ hD0]; rfl
  have HN := Lib.hid (hn.keep hb0)
  have HX := Lib.hid (hx.keep hb0)
  have HS := Lib.hid hs
  have HB := Lib.hid hb0
  have hl3 : (ns.length : Int) ≤ 8796093021952 := by omega
  have HV : Hid (∀ k : Nat, dw = k → k ≠ 0 → k ≤ 6 → validB ⟨dw, dl, ns, xs⟩ = ((decide ((xs.length : Int) = shapeX k) && (decide ((ns.length : Int) = shapeN k) || decide (k = 2) && decide ((shapeN k : Int) < ns.length))) && (ns.all name && xs.all rangeB))) := Lib.hid (fun k hk h0 h6 => by
    subst hk
    unfold validB
    simp only
    rw [wordN_nat h0 h6]
    simp [h0])
  have HV0 : Hid ((dw < 1 ∨ 6 < dw) → validB ⟨dw, dl, ns, xs⟩ = false) := Lib.hid (fun h => by unfold validB; simp [wordN_out h])
  clear hn hx hs hb0 hD0
  go_enter Tryd.func11, Tryd.ntmps11
  go_upto_region 1 with (fail)
  generalize w.alloc (.cells #[.int .i64 dw, .int .i64 dl, .slice A1 ns.length c1, .slice A2 xs.length c2] 47) = W0 at *
  by_cases hr : dw < 1 ∨ 6 < dw
  · have HF := Lib.hid (HV0.out hr)
    clear HV HV0
    rcases hr with h1 | h1
    · go_wp2
      go_ret
      exact ⟨ret_bool HF.out.symm, HB.out⟩
    · have h0 : ¬ dw < 1 := by omega
      go_wp2
      go_ret
      exact ⟨ret_bool HF.out.symm, HB.out⟩
  obtain ⟨k, rfl⟩ := Int.eq_ofNat_of_zero_le (show 0 ≤ dw by omega)
  have h0 : decide ((k : Int) < 1) = false := by simp; omega
  have h6 : decide (6 < (k : Int)) = false := by simp; omega
  have HV1 := Lib.hid (HV.out k rfl (by omega) (by omega))
  clear HV HV0 hr
  go_wp2_with fail
  refine (refShape_c _ _).mono ?_
  rintro e W1 ⟨rfl, rfl⟩
  generalize hNN : (shapeN (k : Int) : Int) = NN at *
  generalize hXX : (shapeX (k : Int) : Int) = XX at *
  have hN3 : 0 ≤ NN ∧ NN ≤ 3 := by subst hNN; have := shapeN_le k; omega
  by_cases hX : (xs.length : Int) = XX
  · have eX : ((xs.length : Int) != XX) = false := by simp [hX]
    by_cases hlt : (ns.length : Int) < NN
    · have HF : Hid (validB ⟨(k : Int), dl, ns, xs⟩ = false) := Lib.hid (by rw [HV1.out]; simp; omega)
      have el : decide ((ns.length : Int) < NN) = true := by simp; omega
      clear HV1
      go_wp2
      go_ret
      exact ⟨ret_bool HF.out.symm, HB.out⟩
    have el : decide ((ns.length : Int) < NN) = false := by simp; omega
    by_cases hbad : NN < (ns.length : Int) ∧ k ≠ 2
    · have HF : Hid (validB ⟨(k : Int), dl, ns, xs⟩ = false) := Lib.hid (by rw [HV1.out]; simp; omega)
      obtain ⟨hgt, hk2⟩ := hbad
      have e2 : ((k : Int) != 2) = true := by simp; omega
      have eg : decide (NN < (ns.length : Int)) = true := by simp; omega
      clear HV1
      go_wp2
      go_ret
      exact ⟨ret_bool HF.out.symm, HB.out⟩
    have HV2 : Hid (validB ⟨(k : Int), dl, ns, xs⟩ = (ns.all name && xs.all rangeB)) := Lib.hid (by
      rw [HV1.out, show (decide ((xs.length : Int) = XX) && (decide ((ns.length : Int) = NN) || decide (k = 2) && decide (NN < (ns.length : Int)))) = true by simp; omega, Bool.true_and])
    have hor : decide (NN < (ns.length : Int)) = true ∧ ((k : Int) != 2) = false ∨ decide (NN < (ns.length : Int)) = false := by
      by_cases h : NN < (ns.length : Int)
      · exact .inl ⟨decide_eq_true h, by simp; omega⟩
      · exact .inr (decide_eq_false h)
    clear HV1 hbad
    rcases hor with ⟨hgt, e2⟩ | hgt
    all_goals
      go_wp2
      go_loop [5] (fun i => ∃ j : Nat, j ≤ ns.length ∧ i = .int .i64 j ∧ Hid (ns.all name = (ns.drop j).all name)) (fun i => ns.length - (intOf i).toNat)
      case atStart => exact ⟨0, Nat.zero_le _, rfl, Lib.hid rfl⟩
      case round =>
        obtain ⟨j, hj, rfl, HA⟩ := hrel
        by_cases hjt : j < ns.length
        · obtain ⟨b, o, rfl, hc⟩ := HN.out.str hjt
          have HNm := Lib.hid (fun w => refName_c ns[j] w (HS.out _ (List.getElem_mem hjt)))
          have hd := drop_all (p := name) hjt
          rcases Bool.eq_false_or_eq_true (name ns[j]) with hn | hn
          · have HA2 := Lib.hid (HA.out.trans (hd.trans (by rw [hn, Bool.true_and])))
            rw [hn] at HNm
            clear hd HA hn
            generalize ns[j] = s at *
            go_wp2_with (go_at_call 27; refine (HNm.out _).mono ?_; rintro e w' ⟨rfl, rfl⟩)
            go_round
            case rel => exact ⟨j + 1, by omega, by go_num, HA2⟩
            case measure => simp [intOf]; omega
          · have HA2 := Lib.hid (HA.out.trans (hd.trans (by rw [hn, Bool.false_and])))
            rw [hn] at HNm
            clear hd HA hn
            generalize ns[j] = s at *
            go_wp2_with (go_at_call 27; refine (HNm.out _).mono ?_; rintro e w' ⟨rfl, rfl⟩)
            go_ret
            exact ⟨ret_bool (by rw [HV2.out, HA2.out, Bool.false_and]), HB.out⟩
        · have HA2 : Hid (ns.all name = true) := Lib.hid (HA.out.trans (by rw [List.drop_of_length_le (by omega)]; rfl))
          clear HA
          go_wp2
          go_loop [6] (fun i => ∃ j : Nat, j ≤ xs.length ∧ i = .int .i64 j ∧ Hid (xs.all rangeB = (xs.drop j).all rangeB)) (fun i => xs.length - (intOf i).toNat)
          case atStart => exact ⟨0, Nat.zero_le _, rfl, Lib.hid rfl⟩
          case round =>
            obtain ⟨m, hm, rfl, HA⟩ := hrel
            by_cases hmt : m < xs.length
            · obtain ⟨b, o, rfl, hc⟩ := HX.out.int hmt
              have hd := drop_all (p := rangeB) hmt
              generalize xs[m] = z at *
              by_cases h1 : z < -9999
              · have HA3 : Hid (xs.all rangeB = false) := Lib.hid (HA.out.trans (hd.trans (by rw [show rangeB z = false by unfold rangeB; simp; omega, Bool.false_and])))
                clear hd HA
                go_wp2
                go_ret
                exact ⟨ret_bool (by rw [HV2.out, HA3.out, Bool.and_false]), HB.out⟩
              · by_cases h2 : 9999 < z
                · have HA3 : Hid (xs.all rangeB = false) := Lib.hid (HA.out.trans (hd.trans (by rw [show rangeB z = false by unfold rangeB; simp; omega, Bool.false_and])))
                  clear hd HA
                  go_wp2
                  go_ret
                  exact ⟨ret_bool (by rw [HV2.out, HA3.out, Bool.and_false]), HB.out⟩
                · have HA3 := Lib.hid (HA.out.trans (hd.trans (by rw [show rangeB z = true by unfold rangeB; simp; omega, Bool.true_and])))
                  clear hd HA
                  go_wp2
                  go_round
                  case rel => exact ⟨m + 1, by omega, by go_num, HA3⟩
                  case measure => simp [intOf]; omega
            · have HA3 : Hid (xs.all rangeB = true) := Lib.hid (HA.out.trans (by rw [List.drop_of_length_le (by omega)]; rfl))
              go_wp2
              go_ret
              exact ⟨ret_bool (by rw [HV2.out, HA2.out, HA3.out]; rfl), HB.out⟩
  · have HF : Hid (validB ⟨(k : Int), dl, ns, xs⟩ = false) := Lib.hid (by rw [HV1.out]; simp [hX])
    have eX : ((xs.length : Int) != XX) = true := by simp [hX]
    clear HV1
    go_wp2
    go_ret
    exact ⟨ret_bool HF.out.symm, HB.out⟩
end Go.Proofs.YtgjnhefmheefbaaDoor
namespace Go.Proofs.YtgjnhefmheefbaaDoor
open Go Go.RowKit Fl

theorem run_append_nil {P : Program} (w : World) (t ty e : TypeId) (i : TypeInfo) (ht : P.underlying t = some (.slice e)) (hi : P.info? e = some i) (A : Option Addr) (n c c2 : Nat) (hnc : n ≤ c) :
    (Builtin.append_ #[t, t] ty #[.slice A n c, .slice none 0 c2]).run P w = .ok (.slice A n c) w := by
  cases A with
  | none => simp [Builtin.append_, run_underlying ht, sizeOf, typeInfo, hi, Builtin.lenOf, hnc, run_firstCells_none]
  | some a => simp [Builtin.append_, run_underlying ht, sizeOf, typeInfo, hi, Builtin.lenOf, hnc, run_firstCells_none, storeCells]
set_option maxRecDepth 100000 in
theorem run_append_strs (w : World) (ty : TypeId) (base : Nat) (v : Value) (n : Nat) (xs : List Value) (hown : w.ownsRow base 9 1 v n xs) (A : Option Addr) (c : Nat) (ns : List (List UInt8)) (hH : Holds w A (ns.map S)) (hn : n + ns.length ≤ 8796093022208) (hbase : base ≤ w.heap.size) :
    ∃ v' w', (Builtin.append_ #[45, 45] ty #[v, .slice A ns.length c]).run Tryd.prog w = .ok v' w' ∧ w'.ownsRow base 9 1 v' (n + ns.length) (xs ++ ns.map S) ∧ w.grownBy w' v.ownBlock := by
  obtain ⟨i0, hi, hz0, hz1, hz2⟩ := info_parts Tryd.infoString
  rcases A with _ | ad
  · have h0 : ns = [] := by
      rcases hH with h | ⟨b, o, hA, _⟩
      · simpa using h
      · cases hA
    subst h0
    obtain ⟨A1, c1, rfl, hc⟩ := own_slice_cap hown
    exact ⟨_, w, run_append_nil w _ ty _ i0 Tryd.underlying45 hi A1 n c1 c hc, by simpa using hown, World.grownBy.refl _ _⟩
  · have hnews : ∀ j u, (ns.map S)[j]? = some u → w.cell? (ad.add j) = some u := fun j u hu => by
      rcases hH with h | ⟨b, o, hA, _, hc⟩
      · simp [h] at hu
      · injection hA with hA
        subst hA
        obtain ⟨hj, he⟩ := List.getElem?_eq_some_iff.1 hu
        have e : (⟨b, o, none⟩ : Addr).add j = ⟨b, o + j, none⟩ := by unfold Addr.add; split <;> simp_all
        rw [e, hc j hj, he]
    obtain ⟨v', w', h1, h2, h3, _⟩ := run_append_own_at (P := Tryd.prog) w base 45 ty 9 i0 (S []) 1 16 Tryd.underlying45 hi hz0 hz1 hz2 rfl (by decide) v n xs hown ad ns.length c (ns.map S) (by simp) hnews (fun u hu => by obtain ⟨s, _, rfl⟩ := List.mem_map.1 hu; rfl) (by unfold maxLen; omega) (by omega) hbase
    exact ⟨v', w', h1, h2, h3⟩
theorem wp_strs {o : Oper} {a : Act} {K : Act → World → Prop} {Q : Exit → Act → World → Prop} (w : World) (s x : Operand) (ho : o.op = .call { callee := .builtin .append, args := #[s, x], argTypes := #[45, 45] })
    (base : Nat) (v : Value) (n : Nat) (xs : List Value) (hs : a.eval s = v) (hown : w.ownsRow base 9 1 v n xs) (A : Option Addr) (c : Nat) (ns : List (List UInt8)) (m : Nat) (hm : ns.length = m) (hx : a.eval x = .slice A m c) (hH : Holds w A (ns.map S)) (hn : n + ns.length ≤ 8796093022208) (hbase : base ≤ w.heap.size)
    (h : ∀ v' w', w'.ownsRow base 9 1 v' (n + ns.length) (xs ++ ns.map S) → w.grownBy w' v.ownBlock → K (a.put o.dst v') w') : o.wp Tryd.prog a w K Q := by
  subst hm
  obtain ⟨v', w', hr, h2, h3⟩ := run_append_strs w o.type base v n xs hown A c ns hH hn hbase
  unfold Oper.wp execOp
  simp only [ho, resolve, invoke, builtin, Sem.run_bind, Sem.run_pure, Result.andThen_ok, List.map_toArray, List.map_cons, List.map_nil, hs, hx, hr]
  exact h v' w' h2 h3
theorem step_strs {ops : Array Oper} {o : Oper} {a : Act} {K : Act → World → Prop} {Q : Exit → Act → World → Prop} {E : Prop} (w : World) (hgd : o.guard = none) (s x : Operand) (ho : o.op = .call { callee := .builtin .append, args := #[s, x], argTypes := #[45, 45] })
    (base : Nat) (v : Value) (n : Nat) (xs : List Value) (hs : a.eval s = v) (hown : w.ownsRow base 9 1 v n xs) (A : Option Addr) (c : Nat) (ns : List (List UInt8)) (m : Nat) (hm : ns.length = m) (hx : a.eval x = .slice A m c) (hH : Holds w A (ns.map S)) (hn : n + ns.length ≤ 8796093022208) (hbase : base ≤ w.heap.size)
    (h : ∀ v' w', w'.ownsRow base 9 1 v' (n + ns.length) (xs ++ ns.map S) → w.grownBy w' v.ownBlock → K (a.put o.dst v') w') : if Region.wanted o (yielded ops a.tmps) = true then Oper.wp Tryd.prog o a w K Q else E := by
  have hw : Region.wanted o (yielded ops a.tmps) = true := by simp [Region.wanted, hgd]
  rw [if_pos hw]
  exact wp_strs w s x ho base v n xs hs hown A c ns m hm hx hH hn hbase h
end Go.Proofs.YtgjnhefmheefbaaDoor
namespace Go.Proofs.YtgjnhefmheefbaaDoor
open Go Go.RowKit Fl
attribute [local go_sem] bget

theorem wordN_valid {d : DeclD} (h : validB d = true) : (wordN d.word : Int) = d.word := by
  by_cases hr : d.word < 1 ∨ 6 < d.word
  · unfold validB at h
    simp [wordN_out hr] at h
  · obtain ⟨k, hk⟩ := Int.eq_ofNat_of_zero_le (show 0 ≤ d.word by omega)
    rw [hk, wordN_nat (by omega) (by omega)]
theorem lookA (w : World) (o1 : Obj) : (w.alloc o1).drew.heap[w.heap.size]? = some o1 := heap_alloc_new w o1
theorem lookB (w : World) (o1 o2 : Obj) : ((w.alloc o1).alloc o2).drew.heap[w.heap.size]? = some o1 ∧ ((w.alloc o1).alloc o2).drew.heap[w.heap.size + 1]? = some o2 := by
  have h1 := heap_alloc_new w o1
  have h2 := heap_alloc_new (w.alloc o1) o2
  rw [show (w.alloc o1).heap.size = w.heap.size + 1 by simp] at h2
  exact ⟨(Below.heap_alloc (w.alloc o1) o2 _ (by simp)).trans h1, h2⟩
theorem own_lay {W : World} {e : TypeId} {cs : Array Value} {n q base : Nat} {xs : List Value} (h : W.heap[q]? = some (.cells cs e (0, 0))) (hb : base ≤ q) (hn : cs.size = n) (hx : cs.toList = xs) (hm : n ≤ 1000000) : W.ownsRow base e 1 (.slice (some ⟨q, 0, none⟩) n n) n xs := by
  subst hn hx
  exact ⟨by simp, .inr ⟨q, cs.size, cs, rfl, hb, h, Nat.le_refl _, by unfold maxLen; omega, by simp, by rw [Nat.mul_one]; exact List.take_of_length_le (by simp)⟩⟩
/-- Strings are appended to a literal row of the call's own; blocks of other types stay. -/
theorem step_textK {ops : Array Oper} {o : Oper} {a : Act} {K : Act → World → Prop} {Q : Exit → Act → World → Prop} {E : Prop} (w2 W : World) (T : List UInt8) (q : Nat) (hgd : o.guard = none) (s x : Operand) (ho : o.op = .call { callee := .builtin .append, args := #[s, x], argTypes := #[45, 45] })
    (hs : a.eval s = .slice (some ⟨q, 0, none⟩) 1 1) (hrow : W.heap[q]? = some (.cells #[S T] 9 (0, 0))) (hW : Below w2.heap.size w2 W) (hq : w2.heap.size ≤ q) (A : Option Addr) (c : Nat) (ns : List (List UInt8)) (hx : a.eval x = .slice A ns.length c) (hH : ∀ W, Below w2.heap.size w2 W → Holds W A (ns.map S)) (hn : ns.length ≤ 8796093021952)
    (h : ∀ g cap w', w'.ownsRow w2.heap.size 9 1 (.slice (some ⟨g, 0, none⟩) (1 + ns.length) cap) (1 + ns.length) ([S T] ++ ns.map S) → Below w2.heap.size w2 w' → (∀ (k : Nat) (cs : Array Value) (t : TypeId) (fz : Nat × Nat), W.heap[k]? = some (Obj.cells cs t fz) → 9 ≠ t → w'.heap[k]? = some (Obj.cells cs t fz)) → K (a.put o.dst (.slice (some ⟨g, 0, none⟩) (1 + ns.length) cap)) w') : if Region.wanted o (yielded ops a.tmps) = true then Oper.wp Tryd.prog o a W K Q else E := by
  have hown := own_lay (base := w2.heap.size) hrow hq rfl rfl (by decide : 1 ≤ 1000000)
  refine step_strs W hgd s x ho w2.heap.size _ 1 [S T] hs hown A c ns ns.length rfl hx (hH W hW) (by omega) hW.size (fun v' w' h2 h3 => ?_)
  obtain ⟨g, cap, rfl, _, _⟩ := h2.form (by omega)
  exact h g cap w' h2 (hW.grown h3 hW.size (own_base hown)) (fun k cs t fz hk ht => (h3.block k (block_lt hk) (fun e => own_ne_block hown hk ht e.symm)).trans hk)
theorem below_cell {B : Nat} {w w' : World} {g i : Nat} {v : Value} (h : Below B w w') (hg : B ≤ g) : Below B w (w'.setCell ⟨g, i, none⟩ v) :=
  h.setCell (by simpa using hg) _
theorem holds_new (w : World) (s : List UInt8) : Holds (w.alloc (.cells #[S s] 9)) (some ⟨w.heap.size, 0, none⟩) ([s].map S) := by
  refine .inr ⟨w.heap.size, 0, rfl, by simp, fun j hj => ?_⟩
  obtain rfl : j = 0 := by simpa using hj
  rw [cell_of_row _ _ _ _ _ _ (heap_alloc_new w _)]
  rfl
theorem cell_put {w2 W : World} {q m : Nat} {fv v0 old : Value} {xs : List Value} (hg : W.heap[q]? = some (.cells #[v0, old] 52 (0, 0))) (hq : w2.heap.size ≤ q) (hB : Below w2.heap.size w2 W) (hO : W.ownsRow w2.heap.size 9 1 fv m xs) :
    (W.setCell ⟨q, 1, none⟩ fv).heap[q]? = some (.cells #[v0, fv] 52 (0, 0)) ∧ (W.setCell ⟨q, 1, none⟩ fv).ownsRow w2.heap.size 9 1 fv m xs ∧ Below w2.heap.size w2 (W.setCell ⟨q, 1, none⟩ fv) := by
  have hgr : W.grownBy (W.setCell ⟨q, 1, none⟩ fv) (some q) := ⟨rfl, rfl, rfl, by simp [World.setCell], fun k _ hne => Below.heap_setCell W ⟨q, 1, none⟩ _ k (fun e => hne (by rw [e]))⟩
  refine ⟨?_, ownsRow_grownB hO hgr hg (by decide), below_cell hB hq⟩
  simp [World.setCell, Array.getElem?_modify, hg]
/-- One string of a new row is appended to a row of the call's own. -/
theorem step_addK {ops : Array Oper} {o : Oper} {a : Act} {K : Act → World → Prop} {Q : Exit → Act → World → Prop} {E : Prop} (w2 w5 : World) (t : List UInt8) (X : Nat) (dl : Int) (nv : Value) (n : Nat) (lst : List Value) (hgd : o.guard = none) (s x : Operand) (ho : o.op = .call { callee := .builtin .append, args := #[s, x], argTypes := #[45, 45] })
    (hs : a.eval s = nv) (hx : a.eval x = .slice (some ⟨w5.heap.size, 0, none⟩) 1 1) (hO : w5.ownsRow w2.heap.size 9 1 nv n lst) (hX : w5.heap[X]? = some (.cells #[.int .i64 dl, nv] 52 (0, 0))) (hB : Below w2.heap.size w2 w5) (hn : n ≤ 8796093022100)
    (h : ∀ g cap w', w'.ownsRow w2.heap.size 9 1 (.slice (some ⟨g, 0, none⟩) (n + 1) cap) (n + 1) (lst ++ [S t]) → Below w2.heap.size w2 w' → w'.heap[X]? = some (.cells #[.int .i64 dl, nv] 52 (0, 0)) → K (a.put o.dst (.slice (some ⟨g, 0, none⟩) (n + 1) cap)) w') : if Region.wanted o (yielded ops a.tmps) = true then Oper.wp Tryd.prog o a (w5.alloc (.cells #[S t] 9)) K Q else E := by
  have hOa := hO.alloc (.cells #[S t] 9)
  have hXa := (heap_alloc_old w5 (.cells #[S t] 9) (block_lt hX)).trans hX
  have hBa := hB.alloc hB.size (.cells #[S t] 9)
  refine step_strs _ hgd s x ho w2.heap.size nv n lst hs hOa (some ⟨w5.heap.size, 0, none⟩) 1 [t] 1 rfl hx (holds_new _ _) (by simp only [List.length_cons, List.length_nil]; omega) hBa.size (fun v' w' h2 h3 => ?_)
  obtain ⟨g, cap, rfl, _, _⟩ := h2.form (by simp)
  exact h g cap w' h2 (hBa.grown h3 hBa.size (own_base hOa)) ((h3.block _ (block_lt hXa) (fun e => own_ne_block hOa hXa (by decide) e.symm)).trans hXa)
/-- A line's block of the call's own is written. -/
theorem line_put {w2 W : World} {q m : Nat} {fv v0 : Value} {xs : List Value} {cs : Array Value} (hcs : cs.size = 2) (hg : W.heap[q]? = some (.cells cs 52 (0, 0))) (hq : w2.heap.size ≤ q) (hB : Below w2.heap.size w2 W) (hO : W.ownsRow w2.heap.size 9 1 fv m xs) :
    ((W.setCell ⟨q, 0, none⟩ v0).setCell ⟨q, 1, none⟩ fv).heap[q]? = some (.cells #[v0, fv] 52 (0, 0)) ∧ ((W.setCell ⟨q, 0, none⟩ v0).setCell ⟨q, 1, none⟩ fv).ownsRow w2.heap.size 9 1 fv m xs ∧ Below w2.heap.size w2 ((W.setCell ⟨q, 0, none⟩ v0).setCell ⟨q, 1, none⟩ fv) := by
  have hgr : W.grownBy ((W.setCell ⟨q, 0, none⟩ v0).setCell ⟨q, 1, none⟩ fv) (some q) := ⟨rfl, rfl, rfl, by simp [World.setCell], fun k _ hne => (Below.heap_setCell _ ⟨q, 1, none⟩ _ k (fun e => hne (by rw [e]))).trans (Below.heap_setCell W ⟨q, 0, none⟩ _ k (fun e => hne (by rw [e])))⟩
  refine ⟨?_, ownsRow_grownB hO hgr hg (by decide), below_cell (below_cell hB hq) hq⟩
  match cs, hcs with
  | ⟨[x, y]⟩, _ => simp [World.setCell, Array.getElem?_modify, hg]
set_option maxRecDepth 100000 in
set_option maxHeartbeats 4000000 in
theorem refFormat_c (A : Option Addr) (c : Nat) (ds : List DeclD) (w : World) (hd : DeclsAt w A ds) (hl : ds.length ≤ 2199023255552) (hok : ∀ d ∈ ds, DeclSz d) :
    Calls Tryd.prog 8 #[.slice A ds.length c] w (FmtPost2 w ds) := by
  have HD := Lib.hid hd
  have HOK := Lib.hid hok
  clear hd hok
  obtain ⟨i0, hi, hz0, hz1, hz2⟩ := info_parts Tryd.infoLine
  go_enter Tryd.func8, Tryd.ntmps8
  go_wp2
  go_loopw [4, 5, 6, 7] (fun v iv _ _ wr => ∃ k : Nat, iv = .int .i64 k ∧ k ≤ ds.length ∧ Hid (LinesOwnI wr w.heap.size v ((ds.take k).map lineOf)) ∧ Hid ((ds.take k).all validB = true) ∧ Hid (Below w.heap.size w wr)) (fun _ iv _ _ _ => ds.length - (intOf iv).toNat)
  case atStart => exact ⟨0, rfl, Nat.zero_le _, Lib.hid ⟨[], rfl, World.ownsRow_nil _ _ _ _, by simp⟩, Lib.hid rfl, Lib.hid (Below.refl _ _)⟩
  case round =>
    obtain ⟨k, rfl, hk, HO, HAl, HB⟩ := hrel
    by_cases hlt : k < ds.length
    · obtain ⟨b, o, A1, c1, A2, c2, rfl, e0, e1, e2, e3, h1, h2⟩ := (HD.out.keep HB.out).one hlt
      have hS := HOK.out ds[k] (List.getElem_mem hlt)
      have HV := Lib.hid (refValid_c ds[k] A1 A2 c1 c2 wr h1 h2 (by have := hS.names; omega) (by have := hS.nums; omega) hS.each)
      rcases hv : validB ds[k] with _ | _
      · have HBad := Lib.hid (allV_bad hlt hv)
        rw [hv] at HV
        clear h1 h2 hS hv HO HAl
        generalize ds[k] = d at *
        obtain ⟨dw, dl, ns, xs⟩ := d
        simp only at e0 e1 e2 e3 HV
        go_wp2_with fail
        refine HV.out.mono ?_
        rintro e w2 ⟨rfl, hb2⟩
        have HB2 := Lib.hid (HB.out.trans (hb2.mono HB.out.size))
        clear hb2 HV
        go_wp2
        go_ret2
        exact ⟨HB2.out, .inr ⟨HBad.out, rfl⟩⟩
      · have hbw : b < wr.heap.size := World.block_lt_of_cell? _ _ e0
        have HAl2 := Lib.hid (allV_take hlt hv HAl.out)
        have HT : Hid ((ds.take (k + 1)).map lineOf = (ds.take k).map lineOf ++ [lineOf ds[k]]) := Lib.hid (by rw [List.take_succ_eq_append_getElem hlt, List.map_append]; rfl)
        have HLt : Hid (((ds.take k).map lineOf).length = k) := Lib.hid (by rw [List.length_map, List.length_take]; omega)
        have hwv := wordN_valid hv
        have hF : FmtOk ds[k] := ⟨hv, hS.names, validB_nums hv, hS.ints⟩
        rw [hv] at HV
        have hnl := hS.names
        have hxl := hF.nums
        have HN1 := Lib.hid h1
        have HX1 := Lib.hid h2
        have HRg : Hid (∀ z ∈ ds[k].nums, -9999 ≤ z ∧ z ≤ 9999) := Lib.hid (fun z hz => by
          unfold validB at hv
          simp only [Bool.and_eq_true] at hv
          have := List.all_eq_true.1 hv.2.2.2 z hz
          unfold rangeB at this
          exact of_decide_eq_true this)
        have hlo : lineOf ds[k] = (ds[k].line, wordText ds[k].word :: ds[k].names ++ ds[k].nums.map dec) := by unfold lineOf; rw [hwv]
        have HLo := Lib.hid hlo
        have HE : Hid (∀ W, Below wr.heap.size wr W → W.cell? ⟨b, o + k * 4, none⟩ = some (.int .i64 ds[k].word) ∧ W.cell? ⟨b, o + k * 4 + 1, none⟩ = some (.int .i64 ds[k].line) ∧ W.cell? ⟨b, o + k * 4 + 2, none⟩ = some (.slice A1 ds[k].names.length c1) ∧ W.cell? ⟨b, o + k * 4 + 3, none⟩ = some (.slice A2 ds[k].nums.length c2)) := Lib.hid (fun W hW => ⟨(hW.cell (p := ⟨b, _, none⟩) hbw).trans e0, (hW.cell (p := ⟨b, _, none⟩) hbw).trans e1, (hW.cell (p := ⟨b, _, none⟩) hbw).trans e2, (hW.cell (p := ⟨b, _, none⟩) hbw).trans e3⟩)
        clear h1 h2 hS hv HAl hwv hF hlo
        generalize ds[k] = d at *
        obtain ⟨dw, dl, ns, xs⟩ := d
        simp only at e0 e1 e2 e3 HV hnl hxl HN1 HX1 HRg HLo HE
        go_wp2_with fail
        refine HV.out.mono ?_
        rintro e w2 ⟨rfl, hb2⟩
        clear e0 e1 e2 e3 HV
        have HB2 := Lib.hid (HB.out.trans (hb2.mono HB.out.size))
        have HO2 := Lib.hid (HO.out.keep hb2)
        have HN2 := Lib.hid (fun W (hW : Below w2.heap.size w2 W) => HN1.out.keep (hb2.trans (hW.mono hb2.size)))
        have HX2 := Lib.hid (fun W (hW : Below w2.heap.size w2 W) => HX1.out.keep (hb2.trans (hW.mono hb2.size)))
        have HE2 := Lib.hid (fun W (hW : Below w2.heap.size w2 W) => HE.out W (hb2.trans (hW.mono hb2.size)))
        clear hb2 HB HO HN1 HX1 HE
        obtain ⟨f0, f1, f2, f3⟩ := HE2.out w2 (Below.refl _ _)
        go_wp2_with fail
        go_cut [6] (fun p wx => ∃ (X : Nat) (nv : Value), p = .pointer (some ⟨X, 0, none⟩) ∧ Hid (wx.heap[X]? = some (.cells #[.int .i64 dl, nv] 52 (0, 0))) ∧ w2.heap.size ≤ X ∧ Hid (wx.ownsRow w2.heap.size 9 1 nv (1 + ns.length) ([S (wordText dw)] ++ ns.map S)) ∧ nv.oneCell' = true ∧ Hid (Below w2.heap.size w2 wx))
        case first =>
          go_region_held3 (fun W => W.cell? ⟨b, o + k * 4, none⟩ = some (.int .i64 dw) ∧ W.cell? ⟨b, o + k * 4 + 1, none⟩ = some (.int .i64 dl) ∧ W.cell? ⟨b, o + k * 4 + 2, none⟩ = some (.slice A1 ns.length c1) ∧ W.cell? ⟨b, o + k * 4 + 3, none⟩ = some (.slice A2 xs.length c2)) (first | exact HE2.out _ HB9.out | exact HE2.out _ (below_cell (below_cell HB9.out (by omega)) (by omega)) | exact HE2.out _ (HB9.out.alloc HB9.out.size _) | exact HE2.out _ (HB9.out.alloc HB9.out.size _).drew | exact HE2.out _ HB9.out.drew | exact HE2.out _ (by repeat (first | assumption | (with_reducible exact Below.refl _ _) | (with_reducible refine Below.drew ?_) | (refine Below.alloc ?_ (by first | assumption | omega | (simp; done) | (simp; omega)) _)))) (first | (go_at_call 21; refine (refText_c _ _).mono ?_; rintro e W' ⟨rfl, rfl⟩) | (refine step_textK w2 _ (wordText dw) (w2.heap.size) (by rfl) _ _ (by rfl) (by rfl) (lookA _ _) (by repeat (first | assumption | (with_reducible exact Below.refl _ _) | (with_reducible refine Below.drew ?_) | (refine Below.alloc ?_ (by first | assumption | omega | (simp; done) | (simp; omega)) _))) (by omega) A1 c1 ns (by rfl) HN2.out hnl ?_; intro g9 k9 w9 hO9 hb9 hk9; have HO9 := Lib.hid hO9; have HB9 := Lib.hid hb9; clear hO9 hb9 hk9) | (refine step_textK w2 _ (wordText dw) (w2.heap.size) (by rfl) _ _ (by rfl) (by rfl) ((lookB _ _ _).1) (by repeat (first | assumption | (with_reducible exact Below.refl _ _) | (with_reducible refine Below.drew ?_) | (refine Below.alloc ?_ (by first | assumption | omega | (simp; done) | (simp; omega)) _))) (by omega) A1 c1 ns (by rfl) HN2.out hnl ?_; intro g9 k9 w9 hO9 hb9 hk9; have HX9 : Hid (w9.heap[w2.heap.size + 1]? = some (.cells #[.int .i64 0, .slice none 0 0] 52 (0, 0))) := Lib.hid (hk9 _ _ _ _ ((lookB _ _ _).2) (by decide)); have hx0 : w9.cell? ⟨w2.heap.size + 1, 0, none⟩ = some (.int .i64 0) := (by rw [cell_of_row _ _ _ _ _ _ HX9.out]; rfl); have hx1 : w9.cell? ⟨w2.heap.size + 1, 1, none⟩ = some (.slice none 0 0) := (by rw [cell_of_row _ _ _ _ _ _ HX9.out]; rfl); have hx2 : w9.frozen? ⟨w2.heap.size + 1, 0, none⟩ = false := (by simp [World.frozen?, HX9.out]); have hx3 : w9.frozen? ⟨w2.heap.size + 1, 1, none⟩ = false := (by simp [World.frozen?, HX9.out]); have HO9 := Lib.hid hO9; have HB9 := Lib.hid hb9; clear hO9 hb9 hk9) | (refine step_textK w2 _ (wordText dw) (w2.heap.size + 1) (by rfl) _ _ (by rfl) (by rfl) ((lookB _ _ _).2) (by repeat (first | assumption | (with_reducible exact Below.refl _ _) | (with_reducible refine Below.drew ?_) | (refine Below.alloc ?_ (by first | assumption | omega | (simp; done) | (simp; omega)) _))) (by omega) A1 c1 ns (by rfl) HN2.out hnl ?_; intro g9 k9 w9 hO9 hb9 hk9; have HX9 : Hid (w9.heap[w2.heap.size]? = some (.cells #[.int .i64 0, .slice none 0 0] 52 (0, 0))) := Lib.hid (hk9 _ _ _ _ ((lookB _ _ _).1) (by decide)); have hx0 : w9.cell? ⟨w2.heap.size, 0, none⟩ = some (.int .i64 0) := (by rw [cell_of_row _ _ _ _ _ _ HX9.out]; rfl); have hx1 : w9.cell? ⟨w2.heap.size, 1, none⟩ = some (.slice none 0 0) := (by rw [cell_of_row _ _ _ _ _ _ HX9.out]; rfl); have hx2 : w9.frozen? ⟨w2.heap.size, 0, none⟩ = false := (by simp [World.frozen?, HX9.out]); have hx3 : w9.frozen? ⟨w2.heap.size, 1, none⟩ = false := (by simp [World.frozen?, HX9.out]); have HO9 := Lib.hid hO9; have HB9 := Lib.hid hb9; clear hO9 hb9 hk9))
          all_goals
            go_wp2_with fail
            go_meet
            case rel =>
              first
              | exact ⟨_, _, rfl, Lib.hid (heap_alloc_new _ _), Nat.le_of_lt (Nat.lt_of_lt_of_le (by omega) HB9.out.size), Lib.hid (HO9.out.alloc _), rfl, Lib.hid (HB9.out.alloc HB9.out.size _)⟩
              | exact ⟨_, _, rfl, Lib.hid (heap_alloc_new _ _), HB9.out.size, Lib.hid (HO9.out.alloc _), rfl, Lib.hid (HB9.out.alloc HB9.out.size _)⟩
              | exact ⟨_, _, rfl, Lib.hid (line_put rfl HX9.out (by omega) HB9.out HO9.out).1, by omega, Lib.hid (line_put rfl HX9.out (by omega) HB9.out HO9.out).2.1, rfl, Lib.hid (line_put rfl HX9.out (by omega) HB9.out HO9.out).2.2⟩
        case rest =>
          obtain ⟨X, nv, rfl, HX, hXq, HNm, hn1, HBx⟩ := hcut
          have HN0 : Hid (wc.ownsRow w2.heap.size 9 1 nv (1 + ns.length + 0) ([S (wordText dw)] ++ ns.map S ++ ((xs.take 0).map dec).map S)) := Lib.hid (by simpa using HNm.out)
          have HXc := HX
          have HBc := HBx
          clear HNm HX HBx
          go_wp2
          go_loopw [7] (fun jv wi => ∃ (j : Nat) (nv : Value), jv = .int .i64 j ∧ j ≤ xs.length ∧ Hid (wi.heap[X]? = some (.cells #[.int .i64 dl, nv] 52 (0, 0))) ∧ nv.oneCell' = true ∧ Hid (wi.ownsRow w2.heap.size 9 1 nv (1 + ns.length + j) ([S (wordText dw)] ++ ns.map S ++ ((xs.take j).map dec).map S)) ∧ Hid (Below w2.heap.size w2 wi)) (fun jv _ => xs.length - (intOf jv).toNat)
          case atStart => exact ⟨0, nv, rfl, Nat.zero_le _, HXc, hn1, HN0, HBc⟩
          case round =>
            clear HXc HN0 HBc hn1
            obtain ⟨j, nv, rfl, hj, HX, hn1, HNm, HBi⟩ := hrel
            obtain ⟨f0, f1, f2, f3⟩ := HE2.out _ HBi.out
            by_cases hjt : j < xs.length
            · obtain ⟨b2, o2, rfl, g0⟩ := (HX2.out wr HBi.out).int hjt
              have hb2w : b2 < wr.heap.size := World.block_lt_of_cell? _ _ g0
              have hz := HRg.out xs[j] (List.getElem_mem hjt)
              have HTk : Hid (((xs.take (j + 1)).map dec).map S = ((xs.take j).map dec).map S ++ [S (dec xs[j])]) := Lib.hid (by rw [List.take_succ_eq_append_getElem hjt, List.map_append, List.map_append]; rfl)
              generalize xs[j] = z at *
              have x1 : wr.cell? ⟨X, 1, none⟩ = some nv := by rw [cell_of_row _ _ _ _ _ _ HX.out]; rfl
              have HSS : Hid (∀ W, Below wr.heap.size wr W → W.cell? ⟨b, o + k * 4 + 3, none⟩ = some (.slice (some ⟨b2, o2, none⟩) xs.length c2) ∧ W.cell? ⟨b2, o2 + j, none⟩ = some (.int .i64 z)) := Lib.hid (fun W hW => ⟨(HE2.out W (HBi.out.trans (hW.mono HBi.out.size))).2.2.2, (hW.cell (p := ⟨b2, _, none⟩) hb2w).trans g0⟩)
              have HXx : Hid (∀ W, Below wr.heap.size wr W → W.heap[X]? = some (.cells #[.int .i64 dl, nv] 52 (0, 0))) := Lib.hid (fun W hW => (hW.block X (block_lt HX.out)).trans HX.out)
              have CDg := Lib.hid (fun W => digits_c z W (by omega) (by omega))
              have hsz2 := HBi.out.size
              clear f0 f1 f2
              go_wp2_with fail
              go_region_law (first | (go_simp; go_at_call 14; refine (CDg.out _).mono ?_; rintro e w5 ⟨rfl, hb5⟩; have HB5 : Hid (Below wr.heap.size wr w5) := Lib.hid (Below.trans (by repeat (first | assumption | (with_reducible exact Below.refl _ _) | (with_reducible refine Below.drew ?_) | (refine Below.alloc ?_ (by first | assumption | omega | (simp; done) | (simp; omega)) _))) hb5); have x5 : w5.cell? ⟨X, 1, none⟩ = some nv := (by rw [cell_of_row _ _ _ _ _ _ (HXx.out _ HB5.out)]; rfl); have x5a : ∀ ob, (w5.alloc ob).cell? ⟨X, 1, none⟩ = some nv := (fun ob => by rw [cell_of_row _ _ _ _ _ _ (HXx.out _ (HB5.out.alloc HB5.out.size ob))]; rfl); have HX5 := Lib.hid (HXx.out _ HB5.out); have HO5 := Lib.hid (ownsRow_below HNm.out HB5.out); have HBa := Lib.hid (HBi.out.trans (HB5.out.mono HBi.out.size)); clear hb5) | (refine step_addK w2 w5 (dec z) X dl nv (1 + ns.length + j) ([S (wordText dw)] ++ ns.map S ++ ((xs.take j).map dec).map S) (by rfl) _ _ (by rfl) (by rfl) (by rfl) HO5.out HX5.out HBa.out (by omega) ?_; intro g9 k9 w9 hO9 hb9 hX9; have HO9 := Lib.hid hO9; have HB9 := Lib.hid hb9; have HX9 := Lib.hid hX9; have x9 : w9.cell? ⟨X, 1, none⟩ = some nv := (by rw [cell_of_row _ _ _ _ _ _ HX9.out]; rfl); have y9 : w9.frozen? ⟨X, 1, none⟩ = false := (by simp [World.frozen?, HX9.out]); clear hO9 hb9 hX9))
              all_goals
                have HP := Lib.hid (cell_put HX9.out hXq HB9.out HO9.out)
                clear HX9 HB9 HO9 HO5 HX5 HBa HSS HXx HB5
                go_wp2
                go_roundw
                case rel => exact ⟨j + 1, _, by go_num, by omega, Lib.hid HP.out.1, rfl, Lib.hid (by rw [HTk.out, ← List.append_assoc]; exact HP.out.2.1), Lib.hid HP.out.2.2⟩
                case measure => simp [intOf]; omega
            · obtain rfl : j = xs.length := by omega
              have hnv := HNm.out
              rw [List.take_of_length_le (Nat.le_refl _)] at hnv
              have hfin : wr.ownsRow w.heap.size 9 1 nv (wordText dw :: ns ++ xs.map dec).length ((wordText dw :: ns ++ xs.map dec).map S) := by
                have e1 : (wordText dw :: ns ++ xs.map dec).length = 1 + ns.length + xs.length := by simp; omega
                have e2 : (wordText dw :: ns ++ xs.map dec).map S = [S (wordText dw)] ++ ns.map S ++ (xs.map dec).map S := by simp
                rw [e1, e2]
                exact ownsRow_base hnv HB2.out.size
              have HFin := Lib.hid hfin
              have x0 : wr.cell? ⟨X, 0, none⟩ = some (.int .i64 dl) := by rw [cell_of_row _ _ _ _ _ _ HX.out]; rfl
              have x1 : wr.cell? ⟨X, 1, none⟩ = some nv := by rw [cell_of_row _ _ _ _ _ _ HX.out]; rfl
              have HW := Lib.hid (HB2.out.trans (HBi.out.mono HB2.out.size))
              obtain ⟨fvs, hfl, hown, hfv⟩ := HO2.out.keep HBi.out
              have HOr := Lib.hid hown
              have HFv := Lib.hid hfv
              have HFl := Lib.hid hfl
              have base1 := own_base hown
              have hkl : ((ds.take k).map lineOf).length ≤ 2199023255552 := by rw [HLt.out]; omega
              clear hnv hfin hown hfv hfl f0 f1 f2
              go_wp2_with (at_builtin; refine wpList_append_own _ rfl _ _ 40 rfl w.heap.size 52 i0 (.agg #[.int .i64 0, .slice none 0 0]) 2 32 Tryd.underlying40 hi hz0 hz1 hz2 rfl (by decide) _ _ _ rfl (HOr.out.alloc _) ⟨wr.heap.size, 0, none⟩ 1 1 [.int .i64 dl, nv] rfl rfl ?c1 ?c2 ?c3 ?c4 ?c5 ?_)
              case c1 =>
                intro j u hu
                rcases j with _ | _ | j
                · simp at hu; subst hu; simp [go_sem]
                · simp at hu; subst hu; simp [go_sem]
                · simp at hu
              case c2 =>
                intro u hu
                simp at hu
                rcases hu with rfl | rfl
                · rfl
                · exact hn1
              case c3 => unfold maxLen; omega
              case c4 => omega
              case c5 => have := HW.out.size; simp; omega
              intro v' w3 own3 hg3 _
              have HB3 : Hid (Below w.heap.size w w3) := Lib.hid ((HW.out.alloc HW.out.size _).grown hg3 (by have := HW.out.size; simp; omega) base1)
              have HO3 : Hid (LinesOwnI w3 w.heap.size v' ((ds.take (k + 1)).map lineOf)) := Lib.hid (by
                rw [HT.out, HLo.out]
                exact LinesOwnI.snoc (w := wr) HFl.out (HOr.out.alloc _) HFv.out ((Below.refl _ _).alloc (Nat.le_refl _) _) (HFin.out.alloc _) hg3 (by rw [HLt.out]; rw [← List.map_take] at own3; exact own3))
              clear hg3 own3 base1 HOr HFv HFl HFin HW
              go_wp2
              go_roundw
              case rel => exact ⟨k + 1, by go_num, by omega, HO3, HAl2, HB3⟩
              case measure => simp [intOf]; omega
    · have HO2 : Hid (LinesOwnI wr w.heap.size u4 (ds.map lineOf)) := Lib.hid (by
        have h := HO.out
        rw [show k = ds.length by omega, List.take_length] at h
        exact h)
      obtain rfl : k = ds.length := by omega
      have HA2 : Hid (ds.all validB = true) := Lib.hid (by
        have h := HAl.out
        rw [List.take_of_length_le (Nat.le_refl _)] at h
        exact h)
      clear HAl HO
      go_wp2
      go_ret2
      exact ⟨HB.out, .inl ⟨HA2.out, _, rfl, HO2.out⟩⟩
end Go.Proofs.YtgjnhefmheefbaaDoor
namespace Go.Proofs.YtgjnhefmheefbaaDoor
open Go.RowKit Fl
attribute [local go_sem] bget

set_option maxRecDepth 100000 in
set_option maxHeartbeats 1000000 in
theorem sameStringsE_c (A1 A2 : Option Addr) (c1 c2 : Nat) (s1 : List (List UInt8)) (w : World) (h1 : Holds w A1 (s1.map S)) (h2 : Holds w A2 (s1.map S)) (hl1 : s1.length ≤ 1000000000000000000) :
    Calls Tryd.prog 22 #[.slice A1 s1.length c1, .slice A2 s1.length c2] w fun e w' => e = .returned (.bool true) ∧ ∃ n, w' = w.drewN n := by
  have H1 := Lib.hid h1
  have H2 := Lib.hid h2
  clear h1 h2
  have hne : ((s1.length : Int) != (s1.length : Int)) = false := by simp
  go_enter Tryd.func22, Tryd.ntmps22
  go_wp2
  go_loopw [5] (fun i wr => ∃ k n : Nat, i = .int .i64 k ∧ k ≤ s1.length ∧ wr = w.drewN n) (fun i _ => s1.length - (intOf i).toNat)
  case atStart => exact ⟨0, 0, rfl, Nat.zero_le _, rfl⟩
  case round =>
    obtain ⟨k, n, rfl, hk, rfl⟩ := hrel
    by_cases hlt : k < s1.length
    · obtain ⟨b1, o1, rfl, _, hc1⟩ := H1.out.at_ (by simp; omega)
      obtain ⟨b2, o2, rfl, _, hc2⟩ := H2.out.at_ (by simp; omega)
      have e1 : w.cell? ⟨b1, o1 + k, none⟩ = some (S s1[k]) := by rw [hc1 k (by simpa using hlt)]; simp
      have e2 : w.cell? ⟨b2, o2 + k, none⟩ = some (S s1[k]) := by rw [hc2 k (by simpa using hlt)]; simp
      clear hc1 hc2 H1 H2
      have heq : (s1[k] == s1[k]) = true := by simp
      have hneq : (s1[k] != s1[k]) = false := by simp
      generalize s1[k] = x at *
      go_wp2
      go_quiet (fail)
      go_wp2
      go_roundw
      case rel => exact ⟨k + 1, _, by go_num, by omega, rfl⟩
      case measure => simp [intOf]; omega
    · clear H1 H2
      go_wp2
      go_ret
      exact ⟨rfl, n, rfl⟩
theorem raw_one {w : World} {A : Option Addr} {ls : List LineI} (h : RawAt w A ls) {k : Nat} (hk : k < ls.length) : ∃ b o A' c', A = some ⟨b, o, none⟩ ∧ w.cell? ⟨b, o + k * 2, none⟩ = some (.int .i64 ls[k].1) ∧ w.cell? ⟨b, o + k * 2 + 1, none⟩ = some (.slice A' ls[k].2.length c') ∧ Holds w A' (ls[k].2.map S) := by
  rcases h with h | ⟨b, o, hA, _, hc⟩
  · subst h; simp at hk
  · obtain ⟨A', c', h1, h2, _, h4⟩ := hc k hk
    exact ⟨b, o, A', c', hA, h1, h2, h4⟩
set_option maxRecDepth 100000 in
set_option maxHeartbeats 1000000 in
theorem sameLinesI_c (A1 A2 : Option Addr) (c1 c2 n0 : Nat) (ls : List LineI) (hn0 : ls.length = n0) (w : World) (h1 : RawAt w A1 ls) (h2 : RawAt w A2 ls) (hl : ls.length ≤ 1000000000000000000) (hf : ∀ l ∈ ls, l.2.length ≤ 1000000000000000000) :
    Calls Tryd.prog 9 #[.slice A1 n0 c1, .slice A2 n0 c2] w fun e w' => e = .returned (.bool true) ∧ ∃ n, w' = w.drewN n := by
  subst hn0
  have H1 := Lib.hid h1
  have H2 := Lib.hid h2
  have HF := Lib.hid hf
  clear h1 h2 hf
  have hne : ((ls.length : Int) != (ls.length : Int)) = false := by simp
  go_enter Tryd.func9, Tryd.ntmps9
  go_wp2
  go_loopw [5] (fun i wr => ∃ k n : Nat, i = .int .i64 k ∧ k ≤ ls.length ∧ Hid (wr = w.drewN n)) (fun i _ => ls.length - (intOf i).toNat)
  case atStart => exact ⟨0, 0, rfl, Nat.zero_le _, Lib.hid rfl⟩
  case round =>
    obtain ⟨k, n, rfl, hk, HW⟩ := hrel
    by_cases hlt : k < ls.length
    · have hb : Below w.heap.size w wr := by rw [HW.out]; exact below_drewN (Below.refl _ _) n
      obtain ⟨b1, o1, A1', c1', rfl, e1, e1', hh1⟩ := raw_one (H1.out.keep hb) hlt
      obtain ⟨b2, o2, A2', c2', rfl, e2, e2', hh2⟩ := raw_one (H2.out.keep hb) hlt
      have CS := Lib.hid (fun n => sameStringsE_c A1' A2' c1' c2' ls[k].2 (wr.drewN n) (hh1.drewN n) (hh2.drewN n) (HF.out _ (List.getElem_mem hlt)))
      clear hh1 hh2 H1 H2 HF hb
      have heq : (ls[k].1 != ls[k].1) = false := by simp
      generalize ls[k] = x at *
      go_wp2
      go_quiet ((go_at_call 22; exact (CS.out _).quiet_of))
      go_wp2
      go_roundw
      case rel => exact ⟨k + 1, _, by go_num, by omega, Lib.hid (by rw [HW.out, World.drewN_drewN])⟩
      case measure => simp [intOf]; omega
    · clear H1 H2
      go_wp2
      go_ret
      exact ⟨rfl, n, HW.out⟩
end Go.Proofs.YtgjnhefmheefbaaDoor
