/- Joined texts. -/
import Derived.Test.YtgjnhefmheefbaaDoorMjB
import Derived.Test.YtgjnhefmheefbaaDoorMjC
namespace Go.Proofs.YtgjnhefmheefbaaDoor
open Go.RowKit Fl
attribute [local go_sem] bget

abbrev zeroDecl : Array Value := #[.int .i64 0, .int .i64 0, .slice none 0 0, .slice none 0 0]
def OnePost (w : World) (R : Except Nat DeclD) (e : Ending) (w' : World) : Prop :=
  Below w.heap.size w w' ∧ match R with
    | .ok d => ∃ nv xv, e = .returned (.tuple #[.agg #[.int .i64 d.word, .int .i64 d.line, nv, xv], .int .i64 0]) ∧ w'.ownsRow w.heap.size 9 1 nv d.names.length (d.names.map S) ∧ w'.ownsRow w.heap.size 3 1 xv d.nums.length (d.nums.map I)
    | .error k => e = .returned (.tuple #[.agg zeroDecl, .int .i64 k])
theorem shapeV_pos {k : Nat} (h : k ≠ 0) : shapeV k = .agg #[.int .i64 k, S (wordText k), .int .i64 (shapeN k), .int .i64 (shapeX k), .bool (decide (k = 2))] := by
  unfold shapeV; rw [if_neg h]
theorem Holds.take {w : World} {A : Option Addr} {xs : List Value} (h : Holds w A xs) (m : Nat) : Holds w A (xs.take m) := by
  rcases h with h | ⟨b, o, hA, hb, hc⟩
  · exact .inl (by rw [h]; simp)
  · exact .inr ⟨b, o, hA, hb, fun j hj => by rw [hc j (by simp at hj; omega)]; simp⟩
theorem Holds.drop {w : World} {b o : Nat} {xs : List Value} (h : Holds w (some ⟨b, o, none⟩) xs) (m : Nat) : Holds w (some ⟨b, o + m, none⟩) (xs.drop m) := by
  rcases h with h | ⟨b', o', hA, hb, hc⟩
  · exact .inl (by rw [h]; simp)
  · injection hA with hA
    injection hA with h1 h2
    subst h1 h2
    exact .inr ⟨_, _, rfl, hb, fun j hj => by rw [Nat.add_assoc, hc (m + j) (by simp at hj; omega)]; simp⟩
/-- The line's row and the result's row in the midst of a reading. -/
structure Rows1 (w W : World) (n : Int) (A : Option Addr) (len c : Nat) : Prop where
  below : Below w.heap.size w W
  line : W.heap[w.heap.size]? = some (.cells #[.int .i64 n, .slice A len c] 52 (0, 0))
  decl : W.heap[w.heap.size + 1]? = some (.cells zeroDecl 47 (0, 0))
theorem Rows1.keep {w W W' : World} {n : Int} {A : Option Addr} {len c : Nat} (h : Rows1 w W n A len c) (hb : Below W.heap.size W W') : Rows1 w W' n A len c :=
  ⟨h.below.trans (hb.mono h.below.size), (hb.block _ (block_lt h.line)).trans h.line, (hb.block _ (block_lt h.decl)).trans h.decl⟩
theorem Rows1.c0 {w W : World} {n : Int} {A : Option Addr} {len c : Nat} (h : Rows1 w W n A len c) : W.cell? ⟨w.heap.size, 0, none⟩ = some (.int .i64 n) := by rw [cell_of_row W _ 0 _ _ _ h.line]; rfl
theorem Rows1.c1 {w W : World} {n : Int} {A : Option Addr} {len c : Nat} (h : Rows1 w W n A len c) : W.cell? ⟨w.heap.size, 1, none⟩ = some (.slice A len c) := by rw [cell_of_row W _ 1 _ _ _ h.line]; rfl
theorem Rows1.d {w W : World} {n : Int} {A : Option Addr} {len c : Nat} (h : Rows1 w W n A len c) (i : Nat) : W.cell? ⟨w.heap.size + 1, i, none⟩ = zeroDecl[i]? := cell_of_row W _ i _ _ _ h.decl
theorem Rows1.fz {w W : World} {n : Int} {A : Option Addr} {len c : Nat} (h : Rows1 w W n A len c) (i : Nat) : W.frozen? ⟨w.heap.size + 1, i, none⟩ = false := by simp [World.frozen?, h.decl]
theorem set4_row {W : World} {g : Nat} {a0 a1 a2 a3 v0 v1 v2 v3 : Value} {t : TypeId} (h : W.heap[g]? = some (.cells #[a0, a1, a2, a3] t (0, 0))) :
    (((W.setCell ⟨g, 0, none⟩ v0).setCell ⟨g, 1, none⟩ v1).setCell ⟨g, 2, none⟩ v2).setCell ⟨g, 3, none⟩ v3 = W.setRow g #[v0, v1, v2, v3] := by
  rw [setCell_eq_setRow W g 0 _ t (0, 0) v0 h]
  have h1 := setRow_heap W g _ (#[a0, a1, a2, a3].setIfInBounds 0 v0) t (0, 0) h
  rw [setCell_eq_setRow _ g 1 _ t (0, 0) v1 h1, setRow_setRow]
  have h2 := setRow_heap W g _ ((#[a0, a1, a2, a3].setIfInBounds 0 v0).setIfInBounds 1 v1) t (0, 0) h
  rw [setCell_eq_setRow _ g 2 _ t (0, 0) v2 h2, setRow_setRow]
  have h3 := setRow_heap W g _ (((#[a0, a1, a2, a3].setIfInBounds 0 v0).setIfInBounds 1 v1).setIfInBounds 2 v2) t (0, 0) h
  rw [setCell_eq_setRow _ g 3 _ t (0, 0) v3 h3, setRow_setRow]
  rfl
theorem grown_row (W : World) (g : Nat) (cs : Array Value) : W.grownBy (W.setRow g cs) (some g) :=
  ⟨rfl, rfl, rfl, by simp, fun k _ hne => setRow_other W g k cs (fun e => hne (by rw [e]))⟩
theorem Rows1.start (w : World) (n : Int) (A : Option Addr) (len c : Nat) : Rows1 w ((w.alloc (.cells #[.int .i64 n, .slice A len c] 52)).alloc (.cells zeroDecl 47)) n A len c := by
  refine ⟨((Below.refl _ _).alloc (Nat.le_refl _) _).alloc (by simp) _, ?_, ?_⟩
  · exact heap_alloc2_old w _ _
  · exact heap_alloc2_new w _ _
theorem parseLine_ret {W : World} {g : Nat} (cs : Array Value) (h : W.heap[g]? = some (.cells cs 47 (0, 0))) (hcs : cs.size = 4) (k : Value) (tmps : Array Value) (hp : tmps.getD 2 undef = .pointer (some ⟨g, 0, none⟩)) (hk : tmps.getD 3 undef = k) :
    (results Tryd.f28 tmps).run Tryd.prog W = .ok (.tuple #[.agg cs, k]) W := by
  subst hk
  exact results_cell_tmp rfl _ _ g 47 cs (0, 0) _ hp h Tryd.underlying47 rfl (by rw [hcs]; kernel_rfl)
set_option maxRecDepth 100000 in
set_option maxHeartbeats 2000000 in
theorem parseLine_c (n : Int) (A : Option Addr) (c : Nat) (fs : List (List UInt8)) (w : World) (hg : Shapes w) (hh : Holds w A (fs.map S)) (hlc : fs.length ≤ c) (hl : fs.length ≤ 8796093021952) (hs : ∀ f ∈ fs, f.length ≤ 9223372036854775000) :
    Calls Tryd.prog 28 #[.agg #[.int .i64 n, .slice A fs.length c]] w (OnePost w (parse1 (n, fs))) := by
  have HG := Lib.hid hg
  have HH := Lib.hid hh
  have HS := Lib.hid hs
  clear hh hs hg
  match fs with
  | [] =>
    have hR0 := Lib.hid (Rows1.start w n A 0 c)
    go_enter Tryd.func28, Tryd.ntmps28
    go_wp2
    refine bodyPost_ret (parseLine_ret _ hR0.out.decl rfl _ _ rfl rfl) rfl ?_
    exact ⟨hR0.out.below, rfl⟩
  | s :: r =>
    have hsl := HS.out s (by simp)
    obtain ⟨b, o, rfl, e0⟩ := HH.out.str (k := 0) (by simp)
    simp only [List.getElem_cons_zero, Nat.add_zero] at e0
    have hR0 := Lib.hid (Rows1.start w n (some ⟨b, o, none⟩) (r.length + 1) c)
    have e0' : ((w.alloc (.cells #[.int .i64 n, .slice (some ⟨b, o, none⟩) (r.length + 1) c] 52)).alloc (.cells zeroDecl 47)).cell? ⟨b, o, none⟩ = some (S s) := (hR0.out.below.cell (p := ⟨b, o, none⟩) (World.block_lt_of_cell? _ _ e0)).trans e0
    have hne0 : ((r.length : Int) + 1 == 0) = false := by rw [beq_eq_false_iff_ne]; omega
    have HC := Lib.hid (fun W hW => shapeOfText_c s W (by unfold maxLen; omega) hW)
    simp only [List.length_cons] at hlc hl ⊢
    clear e0
    go_enter Tryd.func28, Tryd.ntmps28
    go_wp2_with fail
    generalize (w.alloc (.cells #[.int .i64 n, .slice (some ⟨b, o, none⟩) (r.length + 1) c] 52)).alloc (.cells zeroDecl 47) = W0 at *
    refine (HC.out _ (HG.out.keep hR0.out.below)).mono ?_
    clear e0' hne0 HC
    by_cases hw0 : wordOf s = 0
    · have HR := Lib.hid (parse1_word (n := n) (r := r) hw0)
      rw [hw0, show shapeV 0 = .agg zeroShape from rfl]
      clear hw0
      rintro e W1 ⟨rfl, hb1⟩
      have hR1 := hR0.out.keep hb1
      have hP1 : ∀ o, (W1.alloc o).heap[w.heap.size + 1]? = some (.cells zeroDecl 47 (0, 0)) := fun o => (heap_alloc_old _ _ (block_lt hR1.decl)).trans hR1.decl
      have hRA := Lib.hid (fun o => hR1.keep ((Below.refl _ W1).alloc (Nat.le_refl _) o))
      have HP1 := Lib.hid hP1
      clear hP1 hR1
      go_wp2_with (refine wpList_store_row rfl 47 _ _ rfl (w.heap.size + 1) _ rfl rfl 47 zeroDecl (HP1.out _) (by kernel_rfl) rfl (by kernel_rfl) ?_)
      refine bodyPost_ret (parseLine_ret _ (setRow_heap _ _ _ _ _ _ (hRA.out _).decl) rfl _ _ rfl rfl) rfl ?_
      exact ⟨below_setRow (hRA.out _).below (by omega) _, by rw [HR.out]; rfl⟩
    · have hX4 := shapeX_le (wordOf s)
      have HA : Hid (∀ W, Calls Tryd.prog 23 #[.agg #[.int .i64 (wordOf s), S (wordText (wordOf s)), .int .i64 (shapeN (wordOf s)), .int .i64 (shapeX (wordOf s)), .bool (decide (wordOf s = 2))], .int .i64 ((r.length : Int) - shapeX (wordOf s)), .int .i64 (shapeX (wordOf s))] W fun e w' => e = .returned (.bool (allowed (wordOf s) ((r.length : Int) - shapeX (wordOf s)))) ∧ Below W.heap.size W w') := Lib.hid (fun W => (allows_c _ _ _ _ _ _ _ W).mono fun e w' h => by
        obtain ⟨rfl, h2⟩ := h
        exact ⟨ret_bool (by unfold allowed; simp), h2⟩)
      have HR5 := Lib.hid (fun h => parse1_count (n := n) (r := r) hw0 h)
      have HRR := Lib.hid (fun h => parse1_rest (n := n) (r := r) hw0 h)
      rw [shapeV_pos hw0, show decide (wordOf s ≠ 0) = true by simpa using hw0]
      rintro e W1 ⟨rfl, hb1⟩
      have hR1 := hR0.out.keep hb1
      have HR1 := Lib.hid hR1
      have hc1 : ∀ ob, (W1.alloc ob).cell? ⟨w.heap.size, 1, none⟩ = some (.slice (some ⟨b, o, none⟩) (r.length + 1) c) := fun ob => (hR1.keep ((Below.refl _ W1).alloc (Nat.le_refl _) ob)).c1
      clear hR0 hb1 hR1
      by_cases hc2 : c = 1
      · subst hc2
        obtain rfl : r = [] := List.eq_nil_of_length_eq_zero (by omega)
        have HR := Lib.hid (HR5.out (allowed_none hw0))
        have hal := allowed_none hw0
        simp only [List.length_nil] at HA
        rw [show ((0 : Nat) : Int) = 0 from rfl, hal, Int.zero_sub] at HA
        clear HR5 HRR hal hw0
        generalize wordOf s = k at *
        generalize wordText k = T at *
        generalize shapeN k = NN at *
        generalize hX : shapeX k = X at *
        generalize decide (k = 2) = bb at *
        clear hX
        simp only [List.length_nil, Nat.zero_add] at hc1 HR1 hl hlc
        go_wp2_with fail
        have hR2 := HR1.out.keep ((Below.refl _ W1).alloc (Nat.le_refl _) (.cells #[.int .i64 k, S T, .int .i64 NN, .int .i64 X, .bool bb] 68))
        have hQ2 : (W1.alloc (.cells #[.int .i64 k, S T, .int .i64 NN, .int .i64 X, .bool bb] 68)).heap[W1.heap.size]? = some (.cells #[.int .i64 k, S T, .int .i64 NN, .int .i64 X, .bool bb] 68 (0, 0)) := heap_alloc_new _ _
        refine (HA.out _).mono ?_
        generalize W1.alloc (.cells #[.int .i64 k, S T, .int .i64 NN, .int .i64 X, .bool bb] 68) = W2 at *
        generalize W1.heap.size = q at *
        rintro e W3 ⟨rfl, hb3⟩
        have hR3 := hR2.keep hb3
        have hQ3 := (hb3.block _ (block_lt hQ2)).trans hQ2
        clear hR2 hQ2 hb3 HA hc1 HR1
        have HR3 := Lib.hid hR3
        clear hQ3 hR3
        go_wp2_with (refine wpList_store_row rfl 47 _ _ rfl (w.heap.size + 1) _ rfl rfl 47 zeroDecl HR3.out.decl (by kernel_rfl) rfl (by kernel_rfl) ?_)
        refine bodyPost_ret (parseLine_ret _ (setRow_heap _ _ _ _ _ _ HR3.out.decl) rfl _ _ rfl rfl) rfl ?_
        exact ⟨below_setRow HR3.out.below (by omega) _, by rw [HR.out]; rfl⟩
      obtain ⟨c', rfl⟩ : ∃ c', c = c' + 2 := ⟨c - 2, by omega⟩
      clear hc2 hw0
      generalize wordOf s = k at *
      generalize wordText k = T at *
      generalize shapeN k = NN at *
      generalize hX : shapeX k = X at *
      generalize decide (k = 2) = bb at *
      generalize allowed k ((r.length : Int) - X) = al at *
      go_wp2_with fail
      have hR2 := HR1.out.keep ((Below.refl _ W1).alloc (Nat.le_refl _) (.cells #[.int .i64 k, S T, .int .i64 NN, .int .i64 X, .bool bb] 68))
      have hQ2 : (W1.alloc (.cells #[.int .i64 k, S T, .int .i64 NN, .int .i64 X, .bool bb] 68)).heap[W1.heap.size]? = some (.cells #[.int .i64 k, S T, .int .i64 NN, .int .i64 X, .bool bb] 68 (0, 0)) := heap_alloc_new _ _
      refine (HA.out _).mono ?_
      generalize W1.alloc (.cells #[.int .i64 k, S T, .int .i64 NN, .int .i64 X, .bool bb] 68) = W2 at *
      generalize W1.heap.size = q at *
      rintro e W3 ⟨rfl, hb3⟩
      have hR3 := hR2.keep hb3
      have hQ3 := (hb3.block _ (block_lt hQ2)).trans hQ2
      clear hR2 hQ2 hb3 HA hc1 HR1
      rcases Bool.eq_false_or_eq_true al with hal | hal
      · subst hal
        obtain ⟨hXr, hR⟩ := HRR.out rfl
        have HR := Lib.hid hR
        clear hR
        obtain ⟨m, hm⟩ : ∃ m, m = r.length - X := ⟨_, rfl⟩
        have hmX : (r.length : Int) - X = (m : Int) := by omega
        rw [← hm] at HR
        have hmle : m ≤ r.length := by omega
        have hlt : (r.take m).length = m := by rw [List.length_take]; omega
        have hrl : r.length = m + X := by omega
        have hld : (r.drop m).length = X := by rw [List.length_drop]; omega
        have HHr : Hid (∀ W, Below w.heap.size w W → Holds W (some ⟨b, o + 1, none⟩) (r.map S)) := Lib.hid (fun W hb => (Holds.drop HH.out 1).keep hb)
        have HT := Lib.hid (fun W hb => by have h := (HHr.out W hb).take m; rwa [← List.map_take] at h)
        have HD := Lib.hid (fun W hb => by have h := (HHr.out W hb).drop m; rwa [← List.map_drop] at h)
        have hmem : ∀ f ∈ r, f.length ≤ 9223372036854775000 := fun f hf => HS.out f (List.mem_cons_of_mem _ hf)
        have HM := Lib.hid hmem
        have HN := Lib.hid (fun W hb => areNames_c (some ⟨b, o + 1, none⟩) (c' + 1) (r.take m) W (HT.out W hb) (by omega) (fun f hf => by have := hmem f (List.mem_of_mem_take hf); unfold maxLen; omega))
        have HNum := Lib.hid (fun A1 c1 W hW => readNumbers_c A1 c1 (r.drop m) W hW (by omega) (fun f hf => hmem f (List.mem_of_mem_drop hf)))
        rw [hlt] at HN
        rw [hld] at HNum
        rw [hmX]
        have HR3 := Lib.hid hR3
        have HQ3 := Lib.hid hQ3
        have hmc : m ≤ c' + 1 := by omega
        have HL := Lib.hid hlt
        have HLD := Lib.hid hld
        clear HRR HR5 hX hm hlt hld hR3 hQ3 hmX hmem HHr hmle hXr
        have HCN : Hid ((r.take m).all name = true → ∀ f ∈ r.take m, f.length ≤ 100000) := Lib.hid (fun h f hf => by
          have := List.all_eq_true.1 h f hf
          unfold name at this; simp at this; omega)
        generalize r.length = rl at *
        go_wp2_with fail
        refine (HN.out _ HR3.out.below).mono ?_
        rintro e W4 ⟨rfl, rfl⟩
        clear HN
        rcases Bool.eq_false_or_eq_true ((r.take m).all name) with hn | hn
        · have HCN := Lib.hid (HCN.out hn)
          rw [hn] at HR ⊢
          clear hn
          have HCl := Lib.hid (fun c1 W hW => cloneAll_c (some ⟨b, o + 1, none⟩) c1 (r.take m) W hW (by have := HL.out; omega) HCN.out)
          rw [HL.out] at HCl
          rcases hz : numsA [] (r.drop m) with _ | zs
          · have HR5 : Hid (parse1 (n, s :: r) = .error 7) := Lib.hid (by rw [HR.out, hz]; simp)
            have HZ := Lib.hid hz
            rw [hz] at HNum
            clear hz HR
            by_cases hd : m = c' + 1
            · exfalso
              have hz2 := HZ.out
              rw [List.eq_nil_of_length_eq_zero (show (r.drop m).length = 0 by rw [HLD.out]; omega)] at hz2
              cases hz2
            · obtain ⟨d, rfl⟩ : ∃ d, c' = m + d := ⟨c' - m, by omega⟩
              have hd1 : m + d + 1 - m = d + 1 := by omega
              go_wp2_with fail
              refine (HNum.out _ _ W3 (HD.out W3 HR3.out.below)).mono ?_
              rintro e W5 ⟨hb5, rfl⟩
              have HR6 := Lib.hid (HR3.out.keep hb5)
              clear HR3 HQ3 HNum hb5
              go_wp2_with (refine wpList_store_row rfl 47 _ _ rfl (w.heap.size + 1) _ rfl rfl 47 zeroDecl HR6.out.decl (by kernel_rfl) rfl (by kernel_rfl) ?_)
              refine bodyPost_ret (parseLine_ret _ (setRow_heap _ _ _ _ _ _ HR6.out.decl) rfl _ _ rfl rfl) rfl ?_
              exact ⟨below_setRow HR6.out.below (by omega) _, by rw [HR5.out]; rfl⟩
          · have HR5 : Hid (parse1 (n, s :: r) = .ok ⟨k, n, r.take m, zs⟩) := Lib.hid (by rw [HR.out, hz]; simp)
            rw [hz] at HNum
            clear hz HR
            by_cases hd : m = c' + 1
            · obtain rfl : X = 0 := by omega
              obtain rfl : m = rl := by omega
              obtain rfl : m = c' + 1 := hd
              go_wp2_with fail
              refine (HNum.out _ _ W3 (.inl (by rw [List.eq_nil_of_length_eq_zero HLD.out]; rfl))).mono ?_
              rintro e W5 ⟨hb5, v, rfl, hown⟩
              have HB3 := Lib.hid HR3.out.below.size
              obtain ⟨A5, c5, rfl⟩ := own_slice hown
              have hR6 := HR3.out.keep hb5
              have hQ6 := (hb5.block _ (block_lt HQ3.out)).trans HQ3.out
              have HR6 := Lib.hid hR6
              have HQ6 := Lib.hid hQ6
              have c0 := hR6.c0
              have q0 : W5.cell? ⟨q, 0, none⟩ = some (.int .i64 k) := by rw [cell_of_row W5 _ 0 _ _ _ hQ6]; rfl
              have HO := Lib.hid hown
              have HT6 := Lib.hid (HT.out W5.drew (hR6.below.drew))
              have HR6d := Lib.hid (hR6.keep ((Below.refl _ W5).drew))
              clear HR3 HQ3 HNum hb5 hR6 hQ6 hown
              go_wp2_with fail
              go_region_with (go_at_call 37; refine (HCl.out _ _ HT6.out).mono ?_; rintro e w6 ⟨hb6, v6, rfl, own6⟩; rw [HL.out] at own6; obtain ⟨A6, c6, rfl⟩ := own_slice own6; have hR7 := HR6d.out.keep hb6; have c7 := hR7.c0; have HR7 := Lib.hid hR7; have q7 : w6.cell? ⟨q, 0, none⟩ = some (.int .i64 k) := (hb6.cell (p := ⟨q, 0, none⟩) (World.block_lt_of_cell? _ _ q0)).trans q0; have HB6 := Lib.hid hb6; have HO6 := Lib.hid own6; have p0 := hR7.d 0; have p1 := hR7.d 1; have p2 := hR7.d 2; have p3 := hR7.d 3; have z0 := hR7.fz 0; have z1 := hR7.fz 1; have z2 := hR7.fz 2; have z3 := hR7.fz 3; clear hb6 own6 hR7)
              all_goals
                go_wp2
                rw [set4_row HR7.out.decl]
                refine bodyPost_ret (parseLine_ret _ (setRow_heap _ _ _ _ _ _ HR7.out.decl) rfl _ _ rfl rfl) rfl ?_
                refine ⟨below_setRow HR7.out.below (by omega) _, ?_⟩
                rw [HR5.out]
                refine ⟨_, _, rfl, ?_, ?_⟩
                · show World.ownsRow _ _ _ _ _ (r.take (c' + 1)).length _
                  rw [HL.out]
                  exact ownsRow_grownB (ownsRow_base HO6.out HR6d.out.below.size) (grown_row _ _ _) HR7.out.decl (by decide)
                · exact ownsRow_grownB (ownsRow_below (ownsRow_below (ownsRow_base HO.out HB3.out) (Below.refl _ W5).drew) HB6.out) (grown_row _ _ _) HR7.out.decl (by decide)
            · obtain ⟨d, rfl⟩ : ∃ d, c' = m + d := ⟨c' - m, by omega⟩
              have hd1 : m + d + 1 - m = d + 1 := by omega
              go_wp2_with fail
              refine (HNum.out _ _ W3 (HD.out W3 HR3.out.below)).mono ?_
              rintro e W5 ⟨hb5, v, rfl, hown⟩
              have HB3 := Lib.hid HR3.out.below.size
              obtain ⟨A5, c5, rfl⟩ := own_slice hown
              have hR6 := HR3.out.keep hb5
              have hQ6 := (hb5.block _ (block_lt HQ3.out)).trans HQ3.out
              have HR6 := Lib.hid hR6
              have HQ6 := Lib.hid hQ6
              have c0 := hR6.c0
              have q0 : W5.cell? ⟨q, 0, none⟩ = some (.int .i64 k) := by rw [cell_of_row W5 _ 0 _ _ _ hQ6]; rfl
              have HO := Lib.hid hown
              have HT6 := Lib.hid (HT.out W5.drew (hR6.below.drew))
              have HR6d := Lib.hid (hR6.keep ((Below.refl _ W5).drew))
              clear HR3 HQ3 HNum hb5 hR6 hQ6 hown
              go_wp2_with fail
              go_region_with (go_at_call 37; refine (HCl.out _ _ HT6.out).mono ?_; rintro e w6 ⟨hb6, v6, rfl, own6⟩; rw [HL.out] at own6; obtain ⟨A6, c6, rfl⟩ := own_slice own6; have hR7 := HR6d.out.keep hb6; have c7 := hR7.c0; have HR7 := Lib.hid hR7; have q7 : w6.cell? ⟨q, 0, none⟩ = some (.int .i64 k) := (hb6.cell (p := ⟨q, 0, none⟩) (World.block_lt_of_cell? _ _ q0)).trans q0; have HB6 := Lib.hid hb6; have HO6 := Lib.hid own6; have p0 := hR7.d 0; have p1 := hR7.d 1; have p2 := hR7.d 2; have p3 := hR7.d 3; have z0 := hR7.fz 0; have z1 := hR7.fz 1; have z2 := hR7.fz 2; have z3 := hR7.fz 3; clear hb6 own6 hR7)
              all_goals
                go_wp2
                rw [set4_row HR7.out.decl]
                refine bodyPost_ret (parseLine_ret _ (setRow_heap _ _ _ _ _ _ HR7.out.decl) rfl _ _ rfl rfl) rfl ?_
                refine ⟨below_setRow HR7.out.below (by omega) _, ?_⟩
                rw [HR5.out]
                refine ⟨_, _, rfl, ?_, ?_⟩
                · show World.ownsRow _ _ _ _ _ (r.take m).length _
                  rw [HL.out]
                  exact ownsRow_grownB (ownsRow_base HO6.out HR6d.out.below.size) (grown_row _ _ _) HR7.out.decl (by decide)
                · exact ownsRow_grownB (ownsRow_below (ownsRow_below (ownsRow_base HO.out HB3.out) (Below.refl _ W5).drew) HB6.out) (grown_row _ _ _) HR7.out.decl (by decide)
        · rw [hn] at HR ⊢
          have HR := Lib.hid (HR.out.trans (if_neg (by simp)))
          clear hn
          go_wp2_with (refine wpList_store_row rfl 47 _ _ rfl (w.heap.size + 1) _ rfl rfl 47 zeroDecl HR3.out.decl (by kernel_rfl) rfl (by kernel_rfl) ?_)
          refine bodyPost_ret (parseLine_ret _ (setRow_heap _ _ _ _ _ _ HR3.out.decl) rfl _ _ rfl rfl) rfl ?_
          exact ⟨below_setRow HR3.out.below (by omega) _, by rw [HR.out]; rfl⟩
      · subst hal
        have HR := Lib.hid (HR5.out rfl)
        clear HRR HR5
        have HR3 := Lib.hid hR3
        clear hQ3 hR3
        go_wp2_with (refine wpList_store_row rfl 47 _ _ rfl (w.heap.size + 1) _ rfl rfl 47 zeroDecl HR3.out.decl (by kernel_rfl) rfl (by kernel_rfl) ?_)
        refine bodyPost_ret (parseLine_ret _ (setRow_heap _ _ _ _ _ _ HR3.out.decl) rfl _ _ rfl rfl) rfl ?_
        exact ⟨below_setRow HR3.out.below (by omega) _, by rw [HR.out]; rfl⟩
end Go.Proofs.YtgjnhefmheefbaaDoor
namespace Go.Proofs.YtgjnhefmheefbaaDoor
open Go.RowKit Fl
attribute [local go_sem] bget

/-- The cells of declarations: a word, a line and two slices for each. -/
def declCells : List DeclD → List (Value × Value) → List Value
  | d :: ds, fv :: fvs => .int .i64 d.word :: .int .i64 d.line :: fv.1 :: fv.2 :: declCells ds fvs
  | _, _ => []
theorem declCells_snoc : ∀ (ds : List DeclD) (fvs : List (Value × Value)) (d : DeclD) (fv : Value × Value), fvs.length = ds.length → declCells (ds ++ [d]) (fvs ++ [fv]) = declCells ds fvs ++ [.int .i64 d.word, .int .i64 d.line, fv.1, fv.2]
  | [], [], _, _, _ => rfl
  | [], _ :: _, _, _, h => by simp at h
  | _ :: _, [], _, _, h => by simp at h
  | a :: ds, b :: fvs, d, fv, h => by
    simp only [List.cons_append, declCells]
    rw [declCells_snoc ds fvs d fv (by simpa using h)]
theorem declCells_length : ∀ (ds : List DeclD) (fvs : List (Value × Value)), fvs.length = ds.length → (declCells ds fvs).length = ds.length * 4
  | [], [], _ => rfl
  | [], _ :: _, h => by simp at h
  | _ :: _, [], h => by simp at h
  | a :: ds, b :: fvs, h => by
    simp only [declCells, List.length_cons]
    rw [declCells_length ds fvs (by simpa using h)]; omega
/-- The slice v, a row of the call's own, holds the declarations ds. -/
def DeclsOwn (w : World) (base : Nat) (v : Value) (ds : List DeclD) : Prop :=
  ∃ fvs : List (Value × Value), fvs.length = ds.length ∧ w.ownsRow base 47 4 v ds.length (declCells ds fvs) ∧
    ∀ (i : Nat) (fv : Value × Value) (d : DeclD), fvs[i]? = some fv → ds[i]? = some d → w.ownsRow base 9 1 fv.1 d.names.length (d.names.map S) ∧ w.ownsRow base 3 1 fv.2 d.nums.length (d.nums.map I)
theorem DeclsOwn.keep {w w' : World} {base : Nat} {v : Value} {ds : List DeclD} (h : DeclsOwn w base v ds) (hb : Below w.heap.size w w') : DeclsOwn w' base v ds := by
  obtain ⟨fvs, hl, hown, hf⟩ := h
  exact ⟨fvs, hl, ownsRow_below hown hb, fun i fv d h1 h2 => ⟨ownsRow_below (hf i fv d h1 h2).1 hb, ownsRow_below (hf i fv d h1 h2).2 hb⟩⟩
theorem DeclsOwn.base {w : World} {base base2 : Nat} {v : Value} {ds : List DeclD} (h : DeclsOwn w base v ds) (hb : base2 ≤ base) : DeclsOwn w base2 v ds := by
  obtain ⟨fvs, hl, hown, hf⟩ := h
  exact ⟨fvs, hl, ownsRow_base hown hb, fun i fv d h1 h2 => ⟨ownsRow_base (hf i fv d h1 h2).1 hb, ownsRow_base (hf i fv d h1 h2).2 hb⟩⟩
theorem DeclsOwn.snoc {w w3 : World} {base : Nat} {v v' nv xv : Value} {ds : List DeclD} {d : DeclD} {fvs : List (Value × Value)} {cs : Array Value} {t : TypeId}
    (hl : fvs.length = ds.length) (hown : w.ownsRow base 47 4 v ds.length (declCells ds fvs))
    (hf : ∀ (i : Nat) (fv : Value × Value) (d : DeclD), fvs[i]? = some fv → ds[i]? = some d → w.ownsRow base 9 1 fv.1 d.names.length (d.names.map S) ∧ w.ownsRow base 3 1 fv.2 d.nums.length (d.nums.map I))
    (h1 : w.ownsRow base 9 1 nv d.names.length (d.names.map S)) (h2 : w.ownsRow base 3 1 xv d.nums.length (d.nums.map I))
    (hg : (w.alloc (.cells cs t)).grownBy w3 v.ownBlock) (h3 : w3.ownsRow base 47 4 v' (ds.length + 1) (declCells ds fvs ++ [.int .i64 d.word, .int .i64 d.line, nv, xv])) :
    DeclsOwn w3 base v' (ds ++ [d]) := by
  refine ⟨fvs ++ [(nv, xv)], by simp [hl], by rw [declCells_snoc ds fvs _ _ hl]; simpa using h3, fun i fv e g1 g2 => ?_⟩
  have keep1 : ∀ {fv : Value} {ss : List (List UInt8)}, w.ownsRow base 9 1 fv ss.length (ss.map S) → w3.ownsRow base 9 1 fv ss.length (ss.map S) := fun h => ownsRow_apart (h.alloc _) (hown.alloc _) (by decide) hg
  have keep2 : ∀ {fv : Value} {ss : List Int}, w.ownsRow base 3 1 fv ss.length (ss.map I) → w3.ownsRow base 3 1 fv ss.length (ss.map I) := fun h => ownsRow_apart (h.alloc _) (hown.alloc _) (by decide) hg
  rcases Nat.lt_or_ge i ds.length with hi | hi
  · rw [List.getElem?_append_left (by omega)] at g1 g2
    exact ⟨keep1 (hf i fv e g1 g2).1, keep2 (hf i fv e g1 g2).2⟩
  · rw [List.getElem?_append_right (by omega)] at g1 g2
    have hi0 : i - ds.length = 0 := by
      rcases Nat.eq_zero_or_pos (i - ds.length) with h | h
      · exact h
      · rw [List.getElem?_eq_none (by simp; omega)] at g2; cases g2
    rw [hl, hi0] at g1
    rw [hi0] at g2
    simp at g1 g2
    subst g1 g2
    exact ⟨keep1 h1, keep2 h2⟩
def ParsePost (w : World) (R : Except (Int × Nat) (List DeclD)) (e : Ending) (w' : World) : Prop :=
  Below w.heap.size w w' ∧ match R with
    | .ok ds => ∃ v, e = .returned (.tuple #[v, .int .i64 0, .int .i64 0]) ∧ DeclsOwn w' w.heap.size v ds
    | .error (n, k) => e = .returned (.tuple #[.slice none 0 0, .int .i64 n, .int .i64 k])
theorem Tryd.infoDecl : (Tryd.prog.info? 47).map (fun i => (i.zero, i.size, i.bytes)) = some (some (.agg #[.int .i64 0, .int .i64 0, .slice none 0 0, .slice none 0 0]), 4, 64) := by kernel_rfl
set_option maxRecDepth 100000 in
set_option maxHeartbeats 4000000 in
theorem parse_c (A : Option Addr) (c : Nat) (ls : List LineI) (w : World) (hg : Shapes w) (hr : RawAt w A ls) (hl : ls.length ≤ 4398046511104) (hf : ∀ x ∈ ls, x.2.length ≤ 8796093021952) (hs : ∀ x ∈ ls, ∀ f ∈ x.2, f.length ≤ 9223372036854775000) :
    Calls Tryd.prog 12 #[.slice A ls.length c] w (ParsePost w (parseT ls)) := by
  have HG := Lib.hid hg
  have HR := Lib.hid hr
  have HF := Lib.hid hf
  have HS := Lib.hid hs
  clear hg hr hf hs
  obtain ⟨i0, hi, hz0, hz1, hz2⟩ := info_parts Tryd.infoDecl
  go_enter Tryd.func12, Tryd.ntmps12
  go_wp2_with (refine wpList_make_own _ rfl _ _ 22 rfl w.heap.size 47 i0 (.agg #[.int .i64 0, .int .i64 0, .slice none 0 0, .slice none 0 0]) 4 Tryd.underlying22 hi hz0 hz1 .i64 .i64 _ ls.length rfl rfl rfl (by rw [hz2]; omega) (by unfold maxLen; omega) (Nat.le_refl _) ?_)
  intro w1 own1 hg1
  have hb1 : Below w.heap.size w w1 := (Below.refl _ _).grown hg1 (Nat.le_refl _) (fun k hk => by cases hk)
  obtain ⟨g, hgg⟩ : ∃ g, g = w.heap.size := ⟨_, rfl⟩
  rw [← hgg] at own1 ⊢
  have HGG := Lib.hid hgg
  clear hg1 hgg
  go_wp2
  go_loopw [5, 15] (fun v i wr => ∃ (k : Nat) (ds : List DeclD), v = .slice (some ⟨g, 0, none⟩) k ls.length ∧ i = .int .i64 k ∧ k ≤ ls.length ∧ ds.length = k ∧ Hid (DeclsOwn wr w.heap.size (.slice (some ⟨g, 0, none⟩) k ls.length) ds) ∧ Below w.heap.size w wr ∧ Hid (parseT ls = parseA ds (ls.drop k))) (fun _ i _ => ls.length - (intOf i).toNat)
  case atStart => exact ⟨0, [], rfl, rfl, Nat.zero_le _, rfl, Lib.hid ⟨[], rfl, ownsRow_base own1 (by have := HGG.out; omega), by simp⟩, hb1, Lib.hid rfl⟩
  case round =>
    clear hb1 own1
    obtain ⟨k, ds, rfl, rfl, hk, hdl, HO, hb, HA⟩ := hrel
    by_cases hlt : k < ls.length
    · obtain ⟨b, o, A', c', rfl, e0, e1, hlc, hh⟩ := (HR.out.keep hb).line hlt
      have HL := Lib.hid (fun (W : World) (hW : Shapes W) (hW2 : Holds W A' (ls[k].2.map S)) => parseLine_c ls[k].1 A' c' ls[k].2 W hW hW2 hlc (HF.out _ (List.getElem_mem hlt)) (HS.out _ (List.getElem_mem hlt)))
      have HGr := Lib.hid (HG.out.keep hb)
      have HHr := Lib.hid hh
      have HPE := Lib.hid (fun (e : Nat) (h : parse1 ls[k] = .error e) => parseA_err (acc := ds) hlt h)
      have HPO := Lib.hid (fun (d : DeclD) (h : parse1 ls[k] = .ok d) => parseA_ok (acc := ds) hlt h)
      clear hh hlc
      generalize hx : ls[k] = x at *
      obtain ⟨xn, xf⟩ := x
      clear hx
      simp only at e0 e1 HL HPE HPO HHr
      have hbx : Below wr.heap.size wr (wr.alloc (.cells #[.int .i64 xn, .slice A' xf.length c'] 52)) := (Below.refl _ _).alloc (Nat.le_refl _) _
      have HX := Lib.hid (heap_alloc_new wr (.cells #[.int .i64 xn, .slice A' xf.length c'] 52))
      rcases hR1 : parse1 (xn, xf) with er | d
      · have hne : ((er : Int) != 0) = true := by have := parse1_errs hR1; rw [bne_iff_ne]; omega
        have HA2 := Lib.hid (HA.out.trans (HPE.out er hR1))
        rw [hR1] at HL
        clear hR1 HPE HPO HA
        go_wp2_with fail
        generalize wr.alloc (.cells #[.int .i64 xn, .slice A' xf.length c'] 52) = wx at *
        refine (HL.out _ (HGr.out.keep hbx) (HHr.out.keep hbx)).mono ?_
        rintro e w2 ⟨hb2, rfl⟩
        have hX2 := (hb2.block _ (block_lt HX.out)).trans HX.out
        have c0 : ∀ ob, (w2.alloc ob).cell? ⟨wr.heap.size, 0, none⟩ = some (.int .i64 xn) := fun ob => by rw [cell_of_row (w2.alloc ob) _ 0 _ _ _ ((heap_alloc_old w2 ob (block_lt hX2)).trans hX2)]; rfl
        have hbz := hb.trans ((hbx.trans (hb2.mono hbx.size)).mono hb.size)
        have HB2 := Lib.hid (fun ob => hbz.alloc hbz.size ob)
        clear hX2 hb2 HL hb hbx HX hbz
        go_wp2
        go_quiet (fail)
        go_wp2
        go_ret3
        exact ⟨below_drewN (HB2.out _) _, by rw [HA2.out]; rfl⟩
      · have HA2 := Lib.hid (HA.out.trans (HPO.out d hR1))
        rw [hR1] at HL
        clear hR1 HPE HPO HA
        go_wp2_with fail
        generalize wr.alloc (.cells #[.int .i64 xn, .slice A' xf.length c'] 52) = wx at *
        refine (HL.out _ (HGr.out.keep hbx) (HHr.out.keep hbx)).mono ?_
        rintro e w2 ⟨hb2, nv, xv, rfl, hn2, hx2⟩
        obtain ⟨A1, c1, rfl⟩ := own_slice hn2
        obtain ⟨A2, c2, rfl⟩ := own_slice hx2
        have hbw : Below wr.heap.size wr w2 := hbx.trans (hb2.mono hbx.size)
        have hbn : w.heap.size ≤ wx.heap.size := Nat.le_trans hb.size hbx.size
        obtain ⟨fvs, hfl, hown, hfv⟩ := (HO.out.keep hbw)
        rw [hdl] at hown
        have hb3 : Below w.heap.size w (w2.alloc (.cells #[.int .i64 d.word, .int .i64 d.line, .slice A1 d.names.length c1, .slice A2 d.nums.length c2] 47)) := (hb.trans (hbw.mono hb.size)).alloc (Nat.le_trans hb.size hbw.size) _
        have own3 := hown.alloc (.cells #[.int .i64 d.word, .int .i64 d.line, .slice A1 d.names.length c1, .slice A2 d.nums.length c2] 47)
        have HN3 := Lib.hid (ownsRow_base (hn2.alloc (.cells #[.int .i64 d.word, .int .i64 d.line, .slice A1 d.names.length c1, .slice A2 d.nums.length c2] 47)) hbn)
        have HX3 := Lib.hid (ownsRow_base (hx2.alloc (.cells #[.int .i64 d.word, .int .i64 d.line, .slice A1 d.names.length c1, .slice A2 d.nums.length c2] 47)) hbn)
        have HF3 := Lib.hid (fun (i : Nat) (fv : Value × Value) (d' : DeclD) (h1 : fvs[i]? = some fv) (h2 : ds[i]? = some d') => And.intro ((hfv i fv d' h1 h2).1.alloc (.cells #[.int .i64 d.word, .int .i64 d.line, .slice A1 d.names.length c1, .slice A2 d.nums.length c2] 47)) ((hfv i fv d' h1 h2).2.alloc (.cells #[.int .i64 d.word, .int .i64 d.line, .slice A1 d.names.length c1, .slice A2 d.nums.length c2] 47)))
        have HFL := Lib.hid hfl
        have HOwn := Lib.hid own3
        clear hb2 HL hb hbx HX hn2 hx2 hfv hfl hown own3 hbw hbn HO
        go_wp2_with (at_builtin; go_loud (refine wpList_append_fits _ rfl _ _ 22 rfl w.heap.size 47 i0 4 Tryd.underlying22 hi hz1 g k ls.length (declCells ds fvs) rfl (HOwn.out.alloc _) ⟨_, 0, none⟩ 1 1 [.int .i64 d.word, .int .i64 d.line, .slice A1 d.names.length c1, .slice A2 d.nums.length c2] rfl rfl ?c1 ?c2 ?c3 ?_))
        case c1 =>
          intro j u hu
          rcases j with _ | _ | _ | _ | j
          · simp at hu; subst hu; simp [go_sem]
          · simp at hu; subst hu; simp [go_sem]
          · simp at hu; subst hu; simp [go_sem]
          · simp at hu; subst hu; simp [go_sem]
          · simp at hu
        case c2 => intro u hu; simp at hu; rcases hu with rfl | rfl | rfl | rfl <;> rfl
        case c3 => omega
        intro w3 own3 hg3
        have hb4 : Below w.heap.size w w3 := (hb3.alloc hb3.size _).grown hg3 (by have := hb3.size; rw [World.alloc]; simp at this ⊢; omega) (fun k hk => by injection hk with hk; have := HGG.out; omega)
        have HO4 : Hid (DeclsOwn w3 w.heap.size (.slice (some ⟨g, 0, none⟩) (k + 1) ls.length) (ds ++ [d])) := Lib.hid (by
          refine DeclsOwn.snoc HFL.out (by rw [hdl]; exact HOwn.out) HF3.out HN3.out HX3.out hg3 ?_
          rw [hdl]
          exact own3)
        clear hb3 own3 hg3 HOwn HF3 HN3 HX3
        go_wp2
        go_roundw
        case rel => exact ⟨k + 1, ds ++ [d], by go_num, by go_num, by omega, by simp; omega, HO4, hb4, HA2⟩
        case measure => simp [intOf]; omega
    · have HA2 := Lib.hid (HA.out.trans (parseA_end (by omega)))
      have HO2 := HO
      go_wp2
      go_ret3
      exact ⟨hb, by rw [HA2.out]; exact ⟨_, rfl, HO2.out⟩⟩
end Go.Proofs.YtgjnhefmheefbaaDoor
