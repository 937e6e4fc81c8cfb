/- Contract of layout.parseLine: it reads one line as a declaration. -/
import Derived.Test.YtpglhidhghhmoaaDoorLyPure
import Derived.Test.YtpglhidhghhmoaaDoorFdLinesMade
namespace Go.Proofs.YtpglhidhghhmoaaDoor
open Go.RowKit Fl
attribute [local go_sem] bget

abbrev zeroDecl : Array Value := #[.int .i64 0, .int .i64 0, .slice none 0 0, .slice none 0 0]
def OnePost (w : World) (R : Except Nat DeclD) (e : Ending) (w' : World) : Prop :=
  Below w.heap.size w w' ∧ match R with
    | .ok d => ∃ nv xv, e = .returned (.tuple #[.agg #[.int .i64 d.word, .int .i64 d.line, nv, xv], .int .i64 0]) ∧ w'.ownsRow w.heap.size 9 1 nv d.names.length (d.names.map S) ∧ w'.ownsRow w.heap.size 3 1 xv d.nums.length (d.nums.map I)
    | .error k => e = .returned (.tuple #[.agg zeroDecl, .int .i64 k])
theorem shapeV_pos {k : Nat} (h : k ≠ 0) : shapeV k = .agg #[.int .i64 k, S (wordText k), .int .i64 (shapeN k), .int .i64 (shapeX k), .bool (decide (k = 2))] := by
  unfold shapeV; rw [if_neg h]
theorem Holds.take {w : World} {A : Option Addr} {xs : List Value} (h : Holds w A xs) (m : Nat) : Holds w A (xs.take m) := by
  rcases h with h | ⟨b, o, hA, hb, hc⟩
  · exact .inl (by rw [h]; simp)
  · exact .inr ⟨b, o, hA, hb, fun j hj => by rw [hc j (by simp at hj; omega)]; simp⟩
theorem Holds.drop {w : World} {b o : Nat} {xs : List Value} (h : Holds w (some ⟨b, o, none⟩) xs) (m : Nat) : Holds w (some ⟨b, o + m, none⟩) (xs.drop m) := by
  rcases h with h | ⟨b', o', hA, hb, hc⟩
  · exact .inl (by rw [h]; simp)
  · injection hA with hA
    injection hA with h1 h2
    subst h1 h2
    exact .inr ⟨_, _, rfl, hb, fun j hj => by rw [Nat.add_assoc, hc (m + j) (by simp at hj; omega)]; simp⟩
/-- The line's row and the result's row in the midst of a reading. -/
structure Rows1 (w W : World) (n : Int) (A : Option Addr) (len c : Nat) : Prop where
  below : Below w.heap.size w W
  line : W.heap[w.heap.size]? = some (.cells #[.int .i64 n, .slice A len c] 58 (0, 0))
  decl : W.heap[w.heap.size + 1]? = some (.cells zeroDecl 53 (0, 0))
theorem Rows1.keep {w W W' : World} {n : Int} {A : Option Addr} {len c : Nat} (h : Rows1 w W n A len c) (hb : Below W.heap.size W W') : Rows1 w W' n A len c :=
  ⟨h.below.trans (hb.mono h.below.size), (hb.block _ (block_lt h.line)).trans h.line, (hb.block _ (block_lt h.decl)).trans h.decl⟩
theorem Rows1.c0 {w W : World} {n : Int} {A : Option Addr} {len c : Nat} (h : Rows1 w W n A len c) : W.cell? ⟨w.heap.size, 0, none⟩ = some (.int .i64 n) := by rw [cell_of_row W _ 0 _ _ _ h.line]; rfl
theorem Rows1.c1 {w W : World} {n : Int} {A : Option Addr} {len c : Nat} (h : Rows1 w W n A len c) : W.cell? ⟨w.heap.size, 1, none⟩ = some (.slice A len c) := by rw [cell_of_row W _ 1 _ _ _ h.line]; rfl
theorem Rows1.d {w W : World} {n : Int} {A : Option Addr} {len c : Nat} (h : Rows1 w W n A len c) (i : Nat) : W.cell? ⟨w.heap.size + 1, i, none⟩ = zeroDecl[i]? := cell_of_row W _ i _ _ _ h.decl
theorem Rows1.fz {w W : World} {n : Int} {A : Option Addr} {len c : Nat} (h : Rows1 w W n A len c) (i : Nat) : W.frozen? ⟨w.heap.size + 1, i, none⟩ = false := by simp [World.frozen?, h.decl]
theorem set4_row {W : World} {g : Nat} {a0 a1 a2 a3 v0 v1 v2 v3 : Value} {t : TypeId} (h : W.heap[g]? = some (.cells #[a0, a1, a2, a3] t (0, 0))) :
    (((W.setCell ⟨g, 0, none⟩ v0).setCell ⟨g, 1, none⟩ v1).setCell ⟨g, 2, none⟩ v2).setCell ⟨g, 3, none⟩ v3 = W.setRow g #[v0, v1, v2, v3] := by
  rw [setCell_eq_setRow W g 0 _ t (0, 0) v0 h]
  have h1 := setRow_heap W g _ (#[a0, a1, a2, a3].setIfInBounds 0 v0) t (0, 0) h
  rw [setCell_eq_setRow _ g 1 _ t (0, 0) v1 h1, setRow_setRow]
  have h2 := setRow_heap W g _ ((#[a0, a1, a2, a3].setIfInBounds 0 v0).setIfInBounds 1 v1) t (0, 0) h
  rw [setCell_eq_setRow _ g 2 _ t (0, 0) v2 h2, setRow_setRow]
  have h3 := setRow_heap W g _ (((#[a0, a1, a2, a3].setIfInBounds 0 v0).setIfInBounds 1 v1).setIfInBounds 2 v2) t (0, 0) h
  rw [setCell_eq_setRow _ g 3 _ t (0, 0) v3 h3, setRow_setRow]
  rfl
theorem grown_row (W : World) (g : Nat) (cs : Array Value) : W.grownBy (W.setRow g cs) (some g) :=
  ⟨rfl, rfl, rfl, by simp, fun k _ hne => setRow_other W g k cs (fun e => hne (by rw [e]))⟩
theorem Rows1.start (w : World) (n : Int) (A : Option Addr) (len c : Nat) : Rows1 w ((w.alloc (.cells #[.int .i64 n, .slice A len c] 58)).alloc (.cells zeroDecl 53)) n A len c := by
  refine ⟨((Below.refl _ _).alloc (Nat.le_refl _) _).alloc (by simp) _, ?_, ?_⟩
  · exact heap_alloc2_old w _ _
  · exact heap_alloc2_new w _ _
theorem parseLine_ret {W : World} {g : Nat} (cs : Array Value) (h : W.heap[g]? = some (.cells cs 53 (0, 0))) (hcs : cs.size = 4) (k : Value) (tmps : Array Value) (hp : tmps.getD 2 undef = .pointer (some ⟨g, 0, none⟩)) (hk : tmps.getD 3 undef = k) :
    (results Tryd.f20 tmps).run Tryd.prog W = .ok (.tuple #[.agg cs, k]) W := by
  subst hk
  exact results_cell_tmp rfl _ _ g 53 cs (0, 0) _ hp h Tryd.underlying53 rfl (by rw [hcs]; kernel_rfl)
set_option maxRecDepth 100000 in
set_option maxHeartbeats 2000000 in
theorem parseLine_c (n : Int) (A : Option Addr) (c : Nat) (fs : List (List UInt8)) (w : World) (hg : Shapes w) (hh : Holds w A (fs.map S)) (hlc : fs.length ≤ c) (hl : fs.length ≤ 8796093021952) (hs : ∀ f ∈ fs, f.length ≤ 9223372036854775000) :
    Calls Tryd.prog 20 #[.agg #[.int .i64 n, .slice A fs.length c]] w (OnePost w (parse1 (n, fs))) := by
  have HG := Lib.hid hg
  have HH := Lib.hid hh
  have HS := Lib.hid hs
  clear hh hs hg
  match fs with
  | [] =>
    have hR0 := Lib.hid (Rows1.start w n A 0 c)
    go_enter Tryd.func20, Tryd.ntmps20
    go_wp2
    refine bodyPost_ret (parseLine_ret _ hR0.out.decl rfl _ _ rfl rfl) rfl ?_
    exact ⟨hR0.out.below, rfl⟩
  | s :: r =>
    have hsl := HS.out s (by simp)
    obtain ⟨b, o, rfl, e0⟩ := HH.out.str (k := 0) (by simp)
    simp only [List.getElem_cons_zero, Nat.add_zero] at e0
    have hR0 := Lib.hid (Rows1.start w n (some ⟨b, o, none⟩) (r.length + 1) c)
    have e0' : ((w.alloc (.cells #[.int .i64 n, .slice (some ⟨b, o, none⟩) (r.length + 1) c] 58)).alloc (.cells zeroDecl 53)).cell? ⟨b, o, none⟩ = some (S s) := (hR0.out.below.cell (p := ⟨b, o, none⟩) (World.block_lt_of_cell? _ _ e0)).trans e0
    have hne0 : ((r.length : Int) + 1 == 0) = false := by rw [beq_eq_false_iff_ne]; omega
    have HC := Lib.hid (fun W hW => shapeOfText_c s W (by unfold maxLen; omega) hW)
    simp only [List.length_cons] at hlc hl ⊢
    clear e0
    go_enter Tryd.func20, Tryd.ntmps20
    go_wp2_with fail
    generalize (w.alloc (.cells #[.int .i64 n, .slice (some ⟨b, o, none⟩) (r.length + 1) c] 58)).alloc (.cells zeroDecl 53) = W0 at *
    refine (HC.out _ (HG.out.keep hR0.out.below)).mono ?_
    clear e0' hne0 HC
    by_cases hw0 : wordOf s = 0
    · have HR := Lib.hid (parse1_word (n := n) (r := r) hw0)
      rw [hw0, show shapeV 0 = .agg zeroShape from rfl]
      clear hw0
      rintro e W1 ⟨rfl, hb1⟩
      have hR1 := hR0.out.keep hb1
      have hP1 : ∀ o, (W1.alloc o).heap[w.heap.size + 1]? = some (.cells zeroDecl 53 (0, 0)) := fun o => (heap_alloc_old _ _ (block_lt hR1.decl)).trans hR1.decl
      have hRA := Lib.hid (fun o => hR1.keep ((Below.refl _ W1).alloc (Nat.le_refl _) o))
      have HP1 := Lib.hid hP1
      clear hP1 hR1
      go_wp2_with (refine wpList_store_row rfl 53 _ _ rfl (w.heap.size + 1) _ rfl rfl 53 zeroDecl (HP1.out _) (by kernel_rfl) rfl (by kernel_rfl) ?_)
      refine bodyPost_ret (parseLine_ret _ (setRow_heap _ _ _ _ _ _ (hRA.out _).decl) rfl _ _ rfl rfl) rfl ?_
      exact ⟨below_setRow (hRA.out _).below (by omega) _, by rw [HR.out]; rfl⟩
    · have hX4 := shapeX_le (wordOf s)
      have HA : Hid (∀ W, Calls Tryd.prog 32 #[.agg #[.int .i64 (wordOf s), S (wordText (wordOf s)), .int .i64 (shapeN (wordOf s)), .int .i64 (shapeX (wordOf s)), .bool (decide (wordOf s = 2))], .int .i64 ((r.length : Int) - shapeX (wordOf s)), .int .i64 (shapeX (wordOf s))] W fun e w' => e = .returned (.bool (allowed (wordOf s) ((r.length : Int) - shapeX (wordOf s)))) ∧ Below W.heap.size W w') := Lib.hid (fun W => (allows_c _ _ _ _ _ _ _ W).mono fun e w' h => by
        obtain ⟨rfl, h2⟩ := h
        exact ⟨ret_bool (by unfold allowed; simp), h2⟩)
      have HR5 := Lib.hid (fun h => parse1_count (n := n) (r := r) hw0 h)
      have HRR := Lib.hid (fun h => parse1_rest (n := n) (r := r) hw0 h)
      rw [shapeV_pos hw0, show decide (wordOf s ≠ 0) = true by simpa using hw0]
      rintro e W1 ⟨rfl, hb1⟩
      have hR1 := hR0.out.keep hb1
      have HR1 := Lib.hid hR1
      have hc1 : ∀ ob, (W1.alloc ob).cell? ⟨w.heap.size, 1, none⟩ = some (.slice (some ⟨b, o, none⟩) (r.length + 1) c) := fun ob => (hR1.keep ((Below.refl _ W1).alloc (Nat.le_refl _) ob)).c1
      clear hR0 hb1 hR1
      by_cases hc2 : c = 1
      · subst hc2
        obtain rfl : r = [] := List.eq_nil_of_length_eq_zero (by omega)
        have HR := Lib.hid (HR5.out (allowed_none hw0))
        have hal := allowed_none hw0
        simp only [List.length_nil] at HA
        rw [show ((0 : Nat) : Int) = 0 from rfl, hal, Int.zero_sub] at HA
        clear HR5 HRR hal hw0
        generalize wordOf s = k at *
        generalize wordText k = T at *
        generalize shapeN k = NN at *
        generalize hX : shapeX k = X at *
        generalize decide (k = 2) = bb at *
        clear hX
        simp only [List.length_nil, Nat.zero_add] at hc1 HR1 hl hlc
        go_wp2_with fail
        have hR2 := HR1.out.keep ((Below.refl _ W1).alloc (Nat.le_refl _) (.cells #[.int .i64 k, S T, .int .i64 NN, .int .i64 X, .bool bb] 77))
        have hQ2 : (W1.alloc (.cells #[.int .i64 k, S T, .int .i64 NN, .int .i64 X, .bool bb] 77)).heap[W1.heap.size]? = some (.cells #[.int .i64 k, S T, .int .i64 NN, .int .i64 X, .bool bb] 77 (0, 0)) := heap_alloc_new _ _
        refine (HA.out _).mono ?_
        generalize W1.alloc (.cells #[.int .i64 k, S T, .int .i64 NN, .int .i64 X, .bool bb] 77) = W2 at *
        generalize W1.heap.size = q at *
        rintro e W3 ⟨rfl, hb3⟩
        have hR3 := hR2.keep hb3
        have hQ3 := (hb3.block _ (block_lt hQ2)).trans hQ2
        clear hR2 hQ2 hb3 HA hc1 HR1
        have HR3 := Lib.hid hR3
        clear hQ3 hR3
        go_wp2_with (refine wpList_store_row rfl 53 _ _ rfl (w.heap.size + 1) _ rfl rfl 53 zeroDecl HR3.out.decl (by kernel_rfl) rfl (by kernel_rfl) ?_)
        refine bodyPost_ret (parseLine_ret _ (setRow_heap _ _ _ _ _ _ HR3.out.decl) rfl _ _ rfl rfl) rfl ?_
        exact ⟨below_setRow HR3.out.below (by omega) _, by rw [HR.out]; rfl⟩
      obtain ⟨c', rfl⟩ : ∃ c', c = c' + 2 := ⟨c - 2, by omega⟩
      clear hc2 hw0
      generalize wordOf s = k at *
      generalize wordText k = T at *
      generalize shapeN k = NN at *
      generalize hX : shapeX k = X at *
      generalize decide (k = 2) = bb at *
      generalize allowed k ((r.length : Int) - X) = al at *
      go_wp2_with fail
      have hR2 := HR1.out.keep ((Below.refl _ W1).alloc (Nat.le_refl _) (.cells #[.int .i64 k, S T, .int .i64 NN, .int .i64 X, .bool bb] 77))
      have hQ2 : (W1.alloc (.cells #[.int .i64 k, S T, .int .i64 NN, .int .i64 X, .bool bb] 77)).heap[W1.heap.size]? = some (.cells #[.int .i64 k, S T, .int .i64 NN, .int .i64 X, .bool bb] 77 (0, 0)) := heap_alloc_new _ _
      refine (HA.out _).mono ?_
      generalize W1.alloc (.cells #[.int .i64 k, S T, .int .i64 NN, .int .i64 X, .bool bb] 77) = W2 at *
      generalize W1.heap.size = q at *
      rintro e W3 ⟨rfl, hb3⟩
      have hR3 := hR2.keep hb3
      have hQ3 := (hb3.block _ (block_lt hQ2)).trans hQ2
      clear hR2 hQ2 hb3 HA hc1 HR1
      rcases Bool.eq_false_or_eq_true al with hal | hal
      · subst hal
        obtain ⟨hXr, hR⟩ := HRR.out rfl
        have HR := Lib.hid hR
        clear hR
        obtain ⟨m, hm⟩ : ∃ m, m = r.length - X := ⟨_, rfl⟩
        have hmX : (r.length : Int) - X = (m : Int) := by omega
        rw [← hm] at HR
        have hmle : m ≤ r.length := by omega
        have hlt : (r.take m).length = m := by rw [List.length_take]; omega
        have hrl : r.length = m + X := by omega
        have hld : (r.drop m).length = X := by rw [List.length_drop]; omega
        have HHr : Hid (∀ W, Below w.heap.size w W → Holds W (some ⟨b, o + 1, none⟩) (r.map S)) := Lib.hid (fun W hb => (Holds.drop HH.out 1).keep hb)
        have HT := Lib.hid (fun W hb => by have h := (HHr.out W hb).take m; rwa [← List.map_take] at h)
        have HD := Lib.hid (fun W hb => by have h := (HHr.out W hb).drop m; rwa [← List.map_drop] at h)
        have hmem : ∀ f ∈ r, f.length ≤ 9223372036854775000 := fun f hf => HS.out f (List.mem_cons_of_mem _ hf)
        have HM := Lib.hid hmem
        have HN := Lib.hid (fun W hb => areNames_c (some ⟨b, o + 1, none⟩) (c' + 1) (r.take m) W (HT.out W hb) (by omega) (fun f hf => by have := hmem f (List.mem_of_mem_take hf); unfold maxLen; omega))
        have HNum := Lib.hid (fun A1 c1 W hW => readNumbers_c A1 c1 (r.drop m) W hW (by omega) (fun f hf => hmem f (List.mem_of_mem_drop hf)))
        rw [hlt] at HN
        rw [hld] at HNum
        rw [hmX]
        have HR3 := Lib.hid hR3
        have HQ3 := Lib.hid hQ3
        have hmc : m ≤ c' + 1 := by omega
        have HL := Lib.hid hlt
        have HLD := Lib.hid hld
        clear HRR HR5 hX hm hlt hld hR3 hQ3 hmX hmem HHr hmle hXr
        have HCN : Hid ((r.take m).all name = true → ∀ f ∈ r.take m, f.length ≤ 100000) := Lib.hid (fun h f hf => by
          have := List.all_eq_true.1 h f hf
          unfold name at this; simp at this; omega)
        generalize r.length = rl at *
        go_wp2_with fail
        refine (HN.out _ HR3.out.below).mono ?_
        rintro e W4 ⟨rfl, rfl⟩
        clear HN
        rcases Bool.eq_false_or_eq_true ((r.take m).all name) with hn | hn
        · have HCN := Lib.hid (HCN.out hn)
          rw [hn] at HR ⊢
          clear hn
          have HCl := Lib.hid (fun c1 W hW => cloneAll_c (some ⟨b, o + 1, none⟩) c1 (r.take m) W hW (by have := HL.out; omega) HCN.out)
          rw [HL.out] at HCl
          rcases hz : numsA [] (r.drop m) with _ | zs
          · have HR5 : Hid (parse1 (n, s :: r) = .error 7) := Lib.hid (by rw [HR.out, hz]; simp)
            have HZ := Lib.hid hz
            rw [hz] at HNum
            clear hz HR
            by_cases hd : m = c' + 1
            · exfalso
              have hz2 := HZ.out
              rw [List.eq_nil_of_length_eq_zero (show (r.drop m).length = 0 by rw [HLD.out]; omega)] at hz2
              cases hz2
            · obtain ⟨d, rfl⟩ : ∃ d, c' = m + d := ⟨c' - m, by omega⟩
              have hd1 : m + d + 1 - m = d + 1 := by omega
              go_wp2_with fail
              refine (HNum.out _ _ W3 (HD.out W3 HR3.out.below)).mono ?_
              rintro e W5 ⟨hb5, rfl⟩
              have HR6 := Lib.hid (HR3.out.keep hb5)
              clear HR3 HQ3 HNum hb5
              go_wp2_with (refine wpList_store_row rfl 53 _ _ rfl (w.heap.size + 1) _ rfl rfl 53 zeroDecl HR6.out.decl (by kernel_rfl) rfl (by kernel_rfl) ?_)
              refine bodyPost_ret (parseLine_ret _ (setRow_heap _ _ _ _ _ _ HR6.out.decl) rfl _ _ rfl rfl) rfl ?_
              exact ⟨below_setRow HR6.out.below (by omega) _, by rw [HR5.out]; rfl⟩
          · have HR5 : Hid (parse1 (n, s :: r) = .ok ⟨k, n, r.take m, zs⟩) := Lib.hid (by rw [HR.out, hz]; simp)
            rw [hz] at HNum
            clear hz HR
            by_cases hd : m = c' + 1
            · obtain rfl : X = 0 := by omega
              obtain rfl : m = rl := by omega
              obtain rfl : m = c' + 1 := hd
              go_wp2_with fail
              refine (HNum.out _ _ W3 (.inl (by rw [List.eq_nil_of_length_eq_zero HLD.out]; rfl))).mono ?_
              rintro e W5 ⟨hb5, v, rfl, hown⟩
              have HB3 := Lib.hid HR3.out.below.size
              obtain ⟨A5, c5, rfl⟩ := own_slice hown
              have hR6 := HR3.out.keep hb5
              have hQ6 := (hb5.block _ (block_lt HQ3.out)).trans HQ3.out
              have HR6 := Lib.hid hR6
              have HQ6 := Lib.hid hQ6
              have c0 := hR6.c0
              have q0 : W5.cell? ⟨q, 0, none⟩ = some (.int .i64 k) := by rw [cell_of_row W5 _ 0 _ _ _ hQ6]; rfl
              have HO := Lib.hid hown
              have HT6 := Lib.hid (HT.out W5.drew (hR6.below.drew))
              have HR6d := Lib.hid (hR6.keep ((Below.refl _ W5).drew))
              clear HR3 HQ3 HNum hb5 hR6 hQ6 hown
              go_wp2_with fail
              go_region_with (go_at_call 40; refine (HCl.out _ _ HT6.out).mono ?_; rintro e w6 ⟨hb6, v6, rfl, own6⟩; rw [HL.out] at own6; obtain ⟨A6, c6, rfl⟩ := own_slice own6; have hR7 := HR6d.out.keep hb6; have c7 := hR7.c0; have HR7 := Lib.hid hR7; have q7 : w6.cell? ⟨q, 0, none⟩ = some (.int .i64 k) := (hb6.cell (p := ⟨q, 0, none⟩) (World.block_lt_of_cell? _ _ q0)).trans q0; have HB6 := Lib.hid hb6; have HO6 := Lib.hid own6; have p0 := hR7.d 0; have p1 := hR7.d 1; have p2 := hR7.d 2; have p3 := hR7.d 3; have z0 := hR7.fz 0; have z1 := hR7.fz 1; have z2 := hR7.fz 2; have z3 := hR7.fz 3; clear hb6 own6 hR7)
              all_goals
                go_wp2
                rw [set4_row HR7.out.decl]
                refine bodyPost_ret (parseLine_ret _ (setRow_heap _ _ _ _ _ _ HR7.out.decl) rfl _ _ rfl rfl) rfl ?_
                refine ⟨below_setRow HR7.out.below (by omega) _, ?_⟩
                rw [HR5.out]
                refine ⟨_, _, rfl, ?_, ?_⟩
                · show World.ownsRow _ _ _ _ _ (r.take (c' + 1)).length _
                  rw [HL.out]
                  exact ownsRow_grownB (ownsRow_base HO6.out HR6d.out.below.size) (grown_row _ _ _) HR7.out.decl (by decide)
                · exact ownsRow_grownB (ownsRow_below (ownsRow_below (ownsRow_base HO.out HB3.out) (Below.refl _ W5).drew) HB6.out) (grown_row _ _ _) HR7.out.decl (by decide)
            · obtain ⟨d, rfl⟩ : ∃ d, c' = m + d := ⟨c' - m, by omega⟩
              have hd1 : m + d + 1 - m = d + 1 := by omega
              go_wp2_with fail
              refine (HNum.out _ _ W3 (HD.out W3 HR3.out.below)).mono ?_
              rintro e W5 ⟨hb5, v, rfl, hown⟩
              have HB3 := Lib.hid HR3.out.below.size
              obtain ⟨A5, c5, rfl⟩ := own_slice hown
              have hR6 := HR3.out.keep hb5
              have hQ6 := (hb5.block _ (block_lt HQ3.out)).trans HQ3.out
              have HR6 := Lib.hid hR6
              have HQ6 := Lib.hid hQ6
              have c0 := hR6.c0
              have q0 : W5.cell? ⟨q, 0, none⟩ = some (.int .i64 k) := by rw [cell_of_row W5 _ 0 _ _ _ hQ6]; rfl
              have HO := Lib.hid hown
              have HT6 := Lib.hid (HT.out W5.drew (hR6.below.drew))
              have HR6d := Lib.hid (hR6.keep ((Below.refl _ W5).drew))
              clear HR3 HQ3 HNum hb5 hR6 hQ6 hown
              go_wp2_with fail
              go_region_with (go_at_call 40; refine (HCl.out _ _ HT6.out).mono ?_; rintro e w6 ⟨hb6, v6, rfl, own6⟩; rw [HL.out] at own6; obtain ⟨A6, c6, rfl⟩ := own_slice own6; have hR7 := HR6d.out.keep hb6; have c7 := hR7.c0; have HR7 := Lib.hid hR7; have q7 : w6.cell? ⟨q, 0, none⟩ = some (.int .i64 k) := (hb6.cell (p := ⟨q, 0, none⟩) (World.block_lt_of_cell? _ _ q0)).trans q0; have HB6 := Lib.hid hb6; have HO6 := Lib.hid own6; have p0 := hR7.d 0; have p1 := hR7.d 1; have p2 := hR7.d 2; have p3 := hR7.d 3; have z0 := hR7.fz 0; have z1 := hR7.fz 1; have z2 := hR7.fz 2; have z3 := hR7.fz 3; clear hb6 own6 hR7)
              all_goals
                go_wp2
                rw [set4_row HR7.out.decl]
                refine bodyPost_ret (parseLine_ret _ (setRow_heap _ _ _ _ _ _ HR7.out.decl) rfl _ _ rfl rfl) rfl ?_
                refine ⟨below_setRow HR7.out.below (by omega) _, ?_⟩
                rw [HR5.out]
                refine ⟨_, _, rfl, ?_, ?_⟩
                · show World.ownsRow _ _ _ _ _ (r.take m).length _
                  rw [HL.out]
                  exact ownsRow_grownB (ownsRow_base HO6.out HR6d.out.below.size) (grown_row _ _ _) HR7.out.decl (by decide)
                · exact ownsRow_grownB (ownsRow_below (ownsRow_below (ownsRow_base HO.out HB3.out) (Below.refl _ W5).drew) HB6.out) (grown_row _ _ _) HR7.out.decl (by decide)
        · rw [hn] at HR ⊢
          have HR := Lib.hid (HR.out.trans (if_neg (by simp)))
          clear hn
          go_wp2_with (refine wpList_store_row rfl 53 _ _ rfl (w.heap.size + 1) _ rfl rfl 53 zeroDecl HR3.out.decl (by kernel_rfl) rfl (by kernel_rfl) ?_)
          refine bodyPost_ret (parseLine_ret _ (setRow_heap _ _ _ _ _ _ HR3.out.decl) rfl _ _ rfl rfl) rfl ?_
          exact ⟨below_setRow HR3.out.below (by omega) _, by rw [HR.out]; rfl⟩
      · subst hal
        have HR := Lib.hid (HR5.out rfl)
        clear HRR HR5
        have HR3 := Lib.hid hR3
        clear hQ3 hR3
        go_wp2_with (refine wpList_store_row rfl 53 _ _ rfl (w.heap.size + 1) _ rfl rfl 53 zeroDecl HR3.out.decl (by kernel_rfl) rfl (by kernel_rfl) ?_)
        refine bodyPost_ret (parseLine_ret _ (setRow_heap _ _ _ _ _ _ HR3.out.decl) rfl _ _ rfl rfl) rfl ?_
        exact ⟨below_setRow HR3.out.below (by omega) _, by rw [HR.out]; rfl⟩
end Go.Proofs.YtpglhidhghhmoaaDoor
