/- Joined texts. -/
import Derived.Test.YtmdnkpiihhaoeaaMzAS
import Derived.Test.YtmdnkpiihhaoeaaMzAB
import Derived.Test.YtmdnkpiihhaoeaaMzAR
import Derived.Maps.Own
import Derived.Maps.OwnSet
import Derived.Maps.Views
import Derived.WalkArith
namespace Go.Proofs.Ytmdnkpiihhaoeaa
open Go Go.RowKit Fl

theorem do_ch (fol : Bool) (l : List BodD) (r a c : Int) (hc : 0 ≤ c ∧ c < 48) : doE fol l r a c = chE l r (okB fol (bodAt l r) a) ∧ doL fol l r a c = chL l r (chgB (bodAt l r) a c) (okB fol (bodAt l r) a) := by
  by_cases h : rangeB l r c
  · have h' : 0 ≤ r ∧ r < (l.length : Int) := ⟨h.1, h.2.1⟩
    unfold chE chL
    rw [if_pos h', if_pos h']
    rcases okB_all fol (bodAt l r) a with hk | hk
    · rw [hk]
      exact do_ok h hk
    · rw [hk]
      exact do_no h hk
  · have h' : ¬ (0 ≤ r ∧ r < (l.length : Int)) := fun q => h ⟨q.1, q.2, hc⟩
    unfold chE chL
    rw [if_neg h', if_neg h']
    exact do_range h
set_option maxRecDepth 100000 in
set_option maxHeartbeats 2000000 in
theorem begin1_c (Ab An As Ar : Option Addr) (cb cn cs cr : Nat) (N : NetD) (b : BodD) (c : Int) (X P : Nat) (fol : Bool) (w : World) (hX : w.heap[X]? = some (.cells (netCells Ab An As Ar cb cn cs cr N) 29 (0, 0))) (hP : w.heap[P]? = some (.cells #[.int .i64 c] 3 (0, 0)))
    (hF : ∀ W, Below w.heap.size w W → Calls Try.prog 24 #[.agg #[.slice Ab N.blocks.length cb, .slice An N.next.length cn, .slice As N.spurs.length cs, .slice Ar N.robots.length cr, Iv N.queue, Iv N.aging, Iv N.detours, Iv N.patience], .int .i64 b.cel, .int .i64 c] W fun e w' => e = .returned (.bool fol) ∧ Below W.heap.size W w') :
    Calls Try.prog 56 #[BV b, .pointer (some ⟨X, 0, none⟩), .pointer (some ⟨P, 0, none⟩)] w fun e w' => e = .returned (.tuple #[BV ⟨b.cel, c, b.srv, b.flt⟩, .bool (restB b && fol)]) ∧ Below w.heap.size w w' := by
  have HT := Lib.hid (fun W => atRest_c b W)
  have HF := Lib.hid hF
  have HX := Lib.hid (fun W (hW : Below w.heap.size w W) => boxAt_of ((hW.block X (block_lt hX)).trans hX))
  have HP : Hid (∀ W, Below w.heap.size w W → W.cell? ⟨P, 0, none⟩ = some (.int .i64 c)) := Lib.hid (fun W hW => cell_of_one ((hW.block P (block_lt hP)).trans hP))
  clear hX hP hF
  generalize restB b = u at *
  have HZ := Lib.hid (two_bd w b zeroB)
  obtain ⟨cel, dst, srv, flt⟩ := b
  obtain ⟨g1, g2, g3⟩ := HZ.out
  have HG : Hid (BodAt ((w.alloc (.cells #[.int .i64 cel, .int .i64 dst, .bool srv, .bool flt] 34)).alloc (.cells #[.int .i64 0, .int .i64 0, .bool false, .bool false] 34)) (w.heap.size + 1) zeroB) := Lib.hid g1
  have HQ : Hid (BodAt ((w.alloc (.cells #[.int .i64 cel, .int .i64 dst, .bool srv, .bool flt] 34)).alloc (.cells #[.int .i64 0, .int .i64 0, .bool false, .bool false] 34)) w.heap.size ⟨cel, dst, srv, flt⟩) := Lib.hid g2
  have HB : Hid (Below w.heap.size w ((w.alloc (.cells #[.int .i64 cel, .int .i64 dst, .bool srv, .bool flt] 34)).alloc (.cells #[.int .i64 0, .int .i64 0, .bool false, .bool false] 34))) := Lib.hid g3
  have HB8 : Hid (∀ W, Below w.heap.size w W → ∀ p q r s : Value, Below w.heap.size w ((((W.setCell ⟨w.heap.size + 1, 0, none⟩ p).setCell ⟨w.heap.size + 1, 1, none⟩ q).setCell ⟨w.heap.size + 1, 2, none⟩ r).setCell ⟨w.heap.size + 1, 3, none⟩ s)) := Lib.hid (fun W h p q r s => below_put (below_put (below_put (below_put h (by omega)) (by omega)) (by omega)) (by omega))
  clear g1 g2 g3 HZ
  rcases u with _ | _
  · go_enter Try.func56, Try.ntmps56
    go_wp2_with fail
    generalize ((w.alloc (.cells #[.int .i64 cel, .int .i64 dst, .bool srv, .bool flt] 34)).alloc (.cells #[.int .i64 0, .int .i64 0, .bool false, .bool false] 34)) = w3 at *
    obtain ⟨y0, y1, y2, y3⟩ := HQ.out.cell
    obtain ⟨z0, z1, z2, z3⟩ := HG.out.cell
    have fq := HQ.out.frozen
    have fg := HG.out.frozen
    refine (HT.out _).mono ?_
    rintro e w4 ⟨rfl, hb4⟩
    replace HG := Lib.hid (HG.out.keep hb4)
    replace HQ := Lib.hid (HQ.out.keep hb4)
    replace HB := Lib.hid (HB.out.trans (hb4.mono HB.out.size))
    clear y0 y1 y2 y3 z0 z1 z2 z3 fq fg hb4
    obtain ⟨y0, y1, y2, y3⟩ := HQ.out.cell
    obtain ⟨z0, z1, z2, z3⟩ := HG.out.cell
    have fq := HQ.out.frozen
    have fg := HG.out.frozen
    obtain ⟨x0, x1, x2, x3, x4, x5, x6, x7⟩ := HX.out _ HB.out
    have p0 := HP.out _ HB.out
    have p0s := fun (v : Value) => HP.out _ (below_put (i := 1) (v := v) HB.out (Nat.le_refl _))
    go_wp2
    exact bodyPost_ret (results_bd rfl _ _ _ ⟨cel, c, srv, flt⟩ _ rfl ((HG.out.far (X := w.heap.size) (by omega)).put4 ⟨cel, c, srv, flt⟩) rfl) rfl ⟨rfl, HB8.out _ (by repeat (first | exact HB.out | refine below_put ?_ (Nat.le_refl _))) _ _ _ _⟩
  · go_enter Try.func56, Try.ntmps56
    go_wp2_with fail
    generalize ((w.alloc (.cells #[.int .i64 cel, .int .i64 dst, .bool srv, .bool flt] 34)).alloc (.cells #[.int .i64 0, .int .i64 0, .bool false, .bool false] 34)) = w3 at *
    obtain ⟨y0, y1, y2, y3⟩ := HQ.out.cell
    obtain ⟨z0, z1, z2, z3⟩ := HG.out.cell
    have fq := HQ.out.frozen
    have fg := HG.out.frozen
    refine (HT.out _).mono ?_
    rintro e w4 ⟨rfl, hb4⟩
    replace HG := Lib.hid (HG.out.keep hb4)
    replace HQ := Lib.hid (HQ.out.keep hb4)
    replace HB := Lib.hid (HB.out.trans (hb4.mono HB.out.size))
    clear y0 y1 y2 y3 z0 z1 z2 z3 fq fg hb4
    obtain ⟨y0, y1, y2, y3⟩ := HQ.out.cell
    obtain ⟨z0, z1, z2, z3⟩ := HG.out.cell
    have fq := HQ.out.frozen
    have fg := HG.out.frozen
    obtain ⟨x0, x1, x2, x3, x4, x5, x6, x7⟩ := HX.out _ HB.out
    have p0 := HP.out _ HB.out
    have p0s := fun (v : Value) => HP.out _ (below_put (i := 1) (v := v) HB.out (Nat.le_refl _))
    go_wp2_with fail
    refine (HF.out _ HB.out).mono ?_
    clear x0 x1 x2 x3 x4 x5 x6 x7 p0 p0s
    rintro e w4 ⟨rfl, hb4⟩
    replace HG := Lib.hid (HG.out.keep hb4)
    replace HQ := Lib.hid (HQ.out.keep hb4)
    replace HB := Lib.hid (HB.out.trans (hb4.mono HB.out.size))
    clear y0 y1 y2 y3 z0 z1 z2 z3 fq fg hb4
    obtain ⟨y0, y1, y2, y3⟩ := HQ.out.cell
    obtain ⟨z0, z1, z2, z3⟩ := HG.out.cell
    have fq := HQ.out.frozen
    have fg := HG.out.frozen
    have p0 := HP.out _ HB.out
    have p0s := fun (v : Value) => HP.out _ (below_put (i := 1) (v := v) HB.out (Nat.le_refl _))
    go_wp2
    exact bodyPost_ret (results_bd rfl _ _ _ ⟨cel, c, srv, flt⟩ _ rfl ((HG.out.far (X := w.heap.size) (by omega)).put4 ⟨cel, c, srv, flt⟩) rfl) rfl ⟨rfl, HB8.out _ (by repeat (first | exact HB.out | refine below_put ?_ (Nat.le_refl _))) _ _ _ _⟩
set_option maxRecDepth 100000 in
set_option maxHeartbeats 2000000 in
theorem devEnd_c (A : Option Addr) (cap n : Nat) (l : List BodD) (hn : l.length = n) (r : Int) (fol : Bool) (w : World) (hh : Holds w A (bodS.cs l)) (hn6 : n ≤ 5864062014805) :
    Calls Try.prog 36 #[.slice A n cap, .int .i64 r] w fun e w' => ∃ v, e = .returned (.tuple #[v, .int .i64 (doE fol l r 2 0)]) ∧ bodS.Own w' w.heap.size v (doL fol l r 2 0) ∧ Below w.heap.size w w' := by
  have h := devChange_c A cap n l hn r 53 #[] (chgB (bodAt l r) 2 0) (okB fol (bodAt l r) 2) w hh hn6 (enters Try.func53 (by kernel_rfl) rfl) (fun W _ => end1_c (bodAt l r) W)
  rw [← (do_ch fol l r 2 0 (by decide)).1, ← (do_ch fol l r 2 0 (by decide)).2] at h
  generalize doE fol l r 2 0 = E at *
  generalize doL fol l r 2 0 = L at *
  have HC := Lib.hid h
  clear h hh hn
  go_enter Try.func36, Try.ntmps36
  go_wp2_with fail
  refine HC.out.mono ?_
  rintro e w2 ⟨v, rfl, ho, hb⟩
  have HO := Lib.hid ho
  have HB := Lib.hid hb
  clear ho hb HC
  go_wp2
  go_ret2
  exact ⟨_, rfl, HO.out, HB.out⟩
set_option maxRecDepth 100000 in
set_option maxHeartbeats 2000000 in
theorem devFinish_c (A : Option Addr) (cap n : Nat) (l : List BodD) (hn : l.length = n) (r : Int) (fol : Bool) (w : World) (hh : Holds w A (bodS.cs l)) (hn6 : n ≤ 5864062014805) :
    Calls Try.prog 41 #[.slice A n cap, .int .i64 r] w fun e w' => ∃ v, e = .returned (.tuple #[v, .int .i64 (doE fol l r 4 0)]) ∧ bodS.Own w' w.heap.size v (doL fol l r 4 0) ∧ Below w.heap.size w w' := by
  have h := devChange_c A cap n l hn r 60 #[] (chgB (bodAt l r) 4 0) (okB fol (bodAt l r) 4) w hh hn6 (enters Try.func60 (by kernel_rfl) rfl) (fun W _ => finish1_c (bodAt l r) W)
  rw [← (do_ch fol l r 4 0 (by decide)).1, ← (do_ch fol l r 4 0 (by decide)).2] at h
  generalize doE fol l r 4 0 = E at *
  generalize doL fol l r 4 0 = L at *
  have HC := Lib.hid h
  clear h hh hn
  go_enter Try.func41, Try.ntmps41
  go_wp2_with fail
  refine HC.out.mono ?_
  rintro e w2 ⟨v, rfl, ho, hb⟩
  have HO := Lib.hid ho
  have HB := Lib.hid hb
  clear ho hb HC
  go_wp2
  go_ret2
  exact ⟨_, rfl, HO.out, HB.out⟩
set_option maxRecDepth 100000 in
set_option maxHeartbeats 2000000 in
theorem devBegin_c (Ab An As Ar : Option Addr) (cb cn cs cr : Nat) (N : NetD) (A : Option Addr) (cap n : Nat) (l : List BodD) (hn : l.length = n) (r c : Int) (fol : Bool) (w : World) (hh : Holds w A (bodS.cs l)) (hn6 : n ≤ 5864062014805)
    (hF : ∀ W, Below w.heap.size w W → Calls Try.prog 24 #[.agg #[.slice Ab N.blocks.length cb, .slice An N.next.length cn, .slice As N.spurs.length cs, .slice Ar N.robots.length cr, Iv N.queue, Iv N.aging, Iv N.detours, Iv N.patience], .int .i64 (bodAt l r).cel, .int .i64 c] W fun e w' => e = .returned (.bool fol) ∧ Below W.heap.size W w') :
    Calls Try.prog 38 #[.agg #[.slice Ab N.blocks.length cb, .slice An N.next.length cn, .slice As N.spurs.length cs, .slice Ar N.robots.length cr, Iv N.queue, Iv N.aging, Iv N.detours, Iv N.patience], .slice A n cap, .int .i64 r, .int .i64 c] w fun e w' => ∃ v, e = .returned (.tuple #[v, .int .i64 (doE fol l r 1 c)]) ∧ bodS.Own w' w.heap.size v (doL fol l r 1 c) ∧ Below w.heap.size w w' := by
  have HI := Lib.hid (fun W => isCell_c c W)
  have s1 : (w.alloc (.cells (netCells Ab An As Ar cb cn cs cr N) 29)).heap.size = w.heap.size + 1 := by simp
  have HB0 : Hid (Below w.heap.size w ((w.alloc (.cells (netCells Ab An As Ar cb cn cs cr N) 29)).alloc (.cells #[.int .i64 c] 3))) := Lib.hid ((below_newB w _).alloc (by omega) _)
  have HP0 : Hid (((w.alloc (.cells (netCells Ab An As Ar cb cn cs cr N) 29)).alloc (.cells #[.int .i64 c] 3)).heap[w.heap.size + 1]? = some (.cells #[.int .i64 c] 3 (0, 0))) := Lib.hid (by
    have h := heap_alloc_new (w.alloc (.cells (netCells Ab An As Ar cb cn cs cr N) 29)) (.cells #[.int .i64 c] 3)
    rw [s1] at h
    exact h)
  have HX0 : Hid (((w.alloc (.cells (netCells Ab An As Ar cb cn cs cr N) 29)).alloc (.cells #[.int .i64 c] 3)).heap[w.heap.size]? = some (.cells (netCells Ab An As Ar cb cn cs cr N) 29 (0, 0))) := Lib.hid ((Below.heap_alloc _ _ _ (by rw [s1]; omega)).trans (heap_alloc_new w _))
  have pc : ((w.alloc (.cells (netCells Ab An As Ar cb cn cs cr N) 29)).alloc (.cells #[.int .i64 c] 3)).cell? ⟨w.heap.size + 1, 0, none⟩ = some (.int .i64 c) := cell_of_one HP0.out
  clear s1
  by_cases hc : 0 ≤ c ∧ c < 48
  · have hcb : cellB c = true := decide_eq_true hc
    rw [hcb] at HI
    have hC := fun W (hW : Below w.heap.size w W) (hX : W.heap[w.heap.size]? = some (.cells (netCells Ab An As Ar cb cn cs cr N) 29 (0, 0))) (hP : W.heap[w.heap.size + 1]? = some (.cells #[.int .i64 c] 3 (0, 0))) => devChange_c A cap n l hn r 56 #[.pointer (some ⟨w.heap.size, 0, none⟩), .pointer (some ⟨w.heap.size + 1, 0, none⟩)] (chgB (bodAt l r) 1 c) (okB fol (bodAt l r) 1) W (hh.keep hW) hn6 (enters Try.func56 (by kernel_rfl) rfl) (fun W2 hW2 => begin1_c Ab An As Ar cb cn cs cr N (bodAt l r) c w.heap.size (w.heap.size + 1) fol W2 ((hW2.block _ (block_lt hX)).trans hX) ((hW2.block _ (block_lt hP)).trans hP) (fun W3 hW3 => hF W3 ((hW.trans (hW2.mono hW.size)).trans (hW3.mono (Nat.le_trans hW.size hW2.size)))))
    rw [← (do_ch fol l r 1 c hc).1, ← (do_ch fol l r 1 c hc).2] at hC
    generalize doE fol l r 1 c = E at *
    generalize doL fol l r 1 c = L at *
    have HC := Lib.hid hC
    clear hC hh hn hcb hc hF
    go_enter Try.func38, Try.ntmps38
    go_wp2_with fail
    refine (HI.out _).mono ?_
    rintro e w2 ⟨rfl, hb2⟩
    have HB2 := Lib.hid (HB0.out.trans (hb2.mono HB0.out.size))
    have HP2 := Lib.hid ((hb2.block _ (block_lt HP0.out)).trans HP0.out)
    have HX2 := Lib.hid ((hb2.block _ (block_lt HX0.out)).trans HX0.out)
    clear hb2 HB0 HP0 HX0 pc HI
    have hmf : ∀ (fn : Fn) (first cap : Array Value) (w : World), (Instr.makeFunc fn first cap).run Try.prog w = .ok (.func fn first cap) w := fun _ _ _ _ => rfl
    go_wp2_with fail
    refine (HC.out _ HB2.out HX2.out HP2.out).mono ?_
    rintro e w3 ⟨v, rfl, ho, hb⟩
    have HO := Lib.hid (ho.base HB2.out.size)
    have HB := Lib.hid (HB2.out.trans (hb.mono HB2.out.size))
    clear ho hb HC HB2 HP2 HX2
    go_wp2
    go_ret2
    exact ⟨_, rfl, HO.out, HB.out⟩
  · have hcb : cellB c = false := decide_eq_false hc
    rw [hcb] at HI
    have HE := Lib.hid (do_range (fol := fol) (a := 1) (fun (h : rangeB l r c) => hc h.2.2))
    rw [HE.out.1, HE.out.2]
    clear HE hc hcb hh hn hF
    go_enter Try.func38, Try.ntmps38
    go_wp2_with fail
    refine (HI.out _).mono ?_
    rintro e w2 ⟨rfl, hb2⟩
    have HB2 := Lib.hid (HB0.out.trans (hb2.mono HB0.out.size))
    clear hb2 HB0 HP0 HX0 pc HI
    go_wp2
    go_ret2
    exact ⟨_, rfl, StK.Own.nil _ _ _, HB2.out⟩
/-- The cell that counts for an action. -/
def aC (a c : Int) : Int := if a = 0 ∨ a = 1 then c else 0
/-- An action from 6 on lifts. -/
def aA (a : Int) : Int := if 0 ≤ a ∧ a ≤ 5 then a else 6
end Go.Proofs.Ytmdnkpiihhaoeaa
namespace Go.Proofs.Ytmdnkpiihhaoeaa
open Go Go.RowKit Fl

theorem clashK_none {a : BodD} : ∀ {l : List BodD} {k : Nat}, (∀ j (h : j < l.length), meetB a l[j] = false) → clashK a l k = none
  | [], _, _ => rfl
  | b :: l, k, h => by
    unfold clashK
    rw [if_neg (by have := h 0 (by simp); simp only [List.getElem_cons_zero] at this; rw [this]; simp)]
    exact clashK_none (fun j hj => by have := h (j + 1) (by simp; omega); simpa using this)
theorem clashK_some {a : BodD} : ∀ {l : List BodD} {k j : Nat} (hj : j < l.length), meetB a l[j] = true → (∀ i (h : i < j), meetB a (l[i]'(by omega)) = false) → clashK a l k = some (k + j)
  | b :: l, k, 0, _, ht, _ => by
    unfold clashK
    rw [if_pos (by simpa using ht)]
    rfl
  | b :: l, k, j + 1, hj, ht, h => by
    unfold clashK
    rw [if_neg (by have := h 0 (by omega); simp only [List.getElem_cons_zero] at this; rw [this]; simp), clashK_some (j := j) (by simpa using hj) (by simpa using ht) (fun i hi => by have := h (i + 1) (by omega); simpa using this)]
    congr 1
    omega
theorem clash_drop {l : List BodD} {i : Nat} (h : i < l.length) : clashL (l.drop i) i = match clashK l[i] (l.drop (i + 1)) (i + 1) with
    | some k => some (i, k)
    | none => clashL (l.drop (i + 1)) (i + 1) := by
  rw [List.drop_eq_getElem_cons h]
  rfl
/-- No later robot meets this one. -/
theorem clash_step {l : List BodD} {i : Nat} (h : i < l.length) (hn : ∀ k (_ : i < k) (hk : k < l.length), meetB l[i] l[k] = false) : clashL (l.drop i) i = clashL (l.drop (i + 1)) (i + 1) := by
  rw [clash_drop h, clashK_none (fun j hj => by
    rw [List.getElem_drop]
    rw [List.length_drop] at hj
    exact hn _ (by omega) (by omega))]
theorem clash_hit {l : List BodD} {i k : Nat} (hk : k < l.length) (hik : i < k) (ht : meetB (l[i]'(by omega)) l[k] = true) (hn : ∀ k' (_ : i < k') (h2 : k' < k), meetB (l[i]'(by omega)) (l[k']'(by omega)) = false) : clashL (l.drop i) i = some (i, k) := by
  rw [clash_drop (by omega), clashK_some (j := k - (i + 1)) (by rw [List.length_drop]; omega) (by rw [List.getElem_drop]; simpa [show i + 1 + (k - (i + 1)) = k by omega] using ht) (fun j hj => by
    rw [List.getElem_drop]
    exact hn _ (by omega) (by omega))]
  simp only [show i + 1 + (k - (i + 1)) = k by omega]
theorem clash_end {l : List BodD} {i : Nat} (h : l.length ≤ i) : clashL (l.drop i) i = none := by
  rw [List.drop_eq_nil_of_le h]
  rfl
theorem meet_yes {a b : BodD} {x y : Nat} (hx : x < (fpB a).length) (hy : y < (fpB b).length) (h : (fpB a)[x] = (fpB b)[y]) : meetB a b = true := by
  unfold meetB
  rw [List.any_eq_true]
  exact ⟨_, List.getElem_mem hx, by rw [List.any_eq_true]; exact ⟨_, List.getElem_mem hy, by rw [h]; simp⟩⟩
theorem meet_no {a b : BodD} (h : ∀ x (hx : x < (fpB a).length) y (hy : y < (fpB b).length), (fpB a)[x] ≠ (fpB b)[y]) : meetB a b = false := by
  unfold meetB
  rw [List.any_eq_false]
  intro p hp
  obtain ⟨x, hx, rfl⟩ := List.getElem_of_mem hp
  rw [Bool.not_eq_true, List.any_eq_false]
  intro q hq
  obtain ⟨y, hy, rfl⟩ := List.getElem_of_mem hq
  have := h x hx y hy
  simpa using this
/-- What Clash returns. -/
def clashV (l : List BodD) : Value := match clashL l 0 with
  | some p => .tuple #[.int .i64 p.1, .int .i64 p.2, .bool true]
  | none => .tuple #[.int .i64 0, .int .i64 0, .bool false]
theorem clashV_hit {l : List BodD} {i k : Nat} (h0 : clashL l 0 = clashL (l.drop i) i) (h : clashL (l.drop i) i = some (i, k)) : clashV l = .tuple #[.int .i64 i, .int .i64 k, .bool true] := by
  unfold clashV
  rw [h0, h]
theorem clashV_end {l : List BodD} {i : Nat} (h0 : clashL l 0 = clashL (l.drop i) i) (h : l.length ≤ i) : clashV l = .tuple #[.int .i64 0, .int .i64 0, .bool false] := by
  unfold clashV
  rw [h0, clash_end h]
theorem own_sliceC {w : World} {base : Nat} {e : TypeId} {size n : Nat} {v : Value} {xs : List Value} (h : w.ownsRow base e size v n xs) : ∃ A c, v = .slice A n c := by
  obtain ⟨_, h2⟩ := h
  rcases h2 with ⟨rfl, rfl⟩ | ⟨g, cap, cur, rfl, _⟩
  · exact ⟨_, _, rfl⟩
  · exact ⟨_, _, rfl⟩
end Go.Proofs.Ytmdnkpiihhaoeaa
namespace Go.Proofs.Ytmdnkpiihhaoeaa
open Go Go.RowKit Fl

theorem fpB_nodup (b : BodD) : (fpB b).Nodup := by
  unfold fpB
  split
  · exact List.nodup_nil
  · split
    · simp
    · rename_i h
      have h2 : b.dst ≠ b.cel := fun e => h (.inr e)
      simp only [List.nodup_cons, List.mem_singleton, List.not_mem_nil, not_false_eq_true, List.nodup_nil, and_true]
      omega
theorem meet_iff (a b : BodD) : meetB a b = true ↔ ∃ z, z ∈ fpB a ∧ z ∈ fpB b := by
  unfold meetB
  rw [List.any_eq_true]
  constructor
  · rintro ⟨x, hx, h⟩
    rw [List.any_eq_true] at h
    obtain ⟨y, hy, h⟩ := h
    obtain rfl : x = y := by simpa using h
    exact ⟨x, hx, hy⟩
  · rintro ⟨z, h1, h2⟩
    exact ⟨z, h1, by rw [List.any_eq_true]; exact ⟨z, h2, by simp⟩⟩
/-- Robot i has cell z, among the robots before j and the first x cells of j. -/
def SeenC (l : List BodD) (j x i : Nat) (z : Int) : Prop := ∃ h : i < l.length, (i < j ∧ z ∈ fpB l[i]) ∨ (i = j ∧ z ∈ (fpB l[i]).take x)
theorem SeenC.le {l : List BodD} {j x i : Nat} {z : Int} (h : SeenC l j x i z) : i ≤ j := by
  obtain ⟨_, h | h⟩ := h
  · omega
  · omega
theorem SeenC.lt {l : List BodD} {j x i : Nat} {z : Int} (h : SeenC l j x i z) : i < l.length := h.1
theorem seen_succ {l : List BodD} {j x : Nat} (hj : j < l.length) (hx : x < (fpB l[j]).length) (i : Nat) (z : Int) : SeenC l j (x + 1) i z ↔ SeenC l j x i z ∨ (i = j ∧ z = (fpB l[j])[x]) := by
  have ht := List.take_succ_eq_append_getElem hx
  constructor
  · rintro ⟨h, h1 | ⟨rfl, h2⟩⟩
    · exact .inl ⟨h, .inl h1⟩
    · rw [ht, List.mem_append, List.mem_singleton] at h2
      rcases h2 with h2 | h2
      · exact .inl ⟨h, .inr ⟨rfl, h2⟩⟩
      · exact .inr ⟨rfl, h2⟩
  · rintro (⟨h, h1 | ⟨rfl, h2⟩⟩ | ⟨rfl, rfl⟩)
    · exact ⟨h, .inl h1⟩
    · exact ⟨h, .inr ⟨rfl, by rw [ht]; exact List.mem_append_left _ h2⟩⟩
    · exact ⟨hj, .inr ⟨rfl, by rw [ht]; exact List.mem_append_right _ (List.mem_singleton.2 rfl)⟩⟩
theorem seen_next {l : List BodD} {j x : Nat} (hj : j < l.length) (hx : x = (fpB l[j]).length) (i : Nat) (z : Int) : SeenC l (j + 1) 0 i z ↔ SeenC l j x i z := by
  constructor
  · rintro ⟨h, ⟨h1, h2⟩ | ⟨_, h2⟩⟩
    · by_cases he : i = j
      · subst he
        exact ⟨h, .inr ⟨rfl, by rw [hx, List.take_length]; exact h2⟩⟩
      · exact ⟨h, .inl ⟨by omega, h2⟩⟩
    · simp at h2
  · rintro ⟨h, ⟨h1, h2⟩ | ⟨rfl, h2⟩⟩
    · exact ⟨h, .inl ⟨by omega, h2⟩⟩
    · exact ⟨h, .inl ⟨by omega, List.mem_of_mem_take h2⟩⟩
theorem seen_new {l : List BodD} {j x : Nat} (hj : j < l.length) (hx : x < (fpB l[j]).length) : ¬ SeenC l j x j (fpB l[j])[x] := by
  rintro ⟨_, ⟨h, _⟩ | ⟨_, h⟩⟩
  · omega
  · obtain ⟨k, hk, he⟩ := List.mem_iff_getElem.1 h
    rw [List.length_take] at hk
    rw [List.getElem_take] at he
    exact List.pairwise_iff_getElem.1 (fpB_nodup l[j]) k x (by omega) hx (by omega) he
/-- What Clash knows. -/
structure CS (l : List BodD) (j x : Nat) (D : DataW Unit) (p q : Int) (f : Bool) : Prop where
  keys : ∀ z, Maps.has D (.int .i64 z) = true ↔ ∃ i, SeenC l j x i z
  vals : ∀ z i, SeenC l j x i z → (∀ i', SeenC l j x i' z → i ≤ i') → D.atKey (.int .i64 z) (.lit (.int .i64 0)) = .lit (.int .i64 i)
  no : f = false → p = 0 ∧ q = 0 ∧ ∀ i k z, i < k → SeenC l j x i z → SeenC l j x k z → False
  yes : f = true → ∃ i k : Nat, p = i ∧ q = k ∧ i < k ∧ (∃ z, SeenC l j x i z ∧ SeenC l j x k z) ∧ ∀ i' k' z, i' < k' → SeenC l j x i' z → SeenC l j x k' z → i < i' ∨ (i = i' ∧ k ≤ k')
theorem CS.zero (l : List BodD) : CS l 0 0 (.map []) 0 0 false := by
  have hn : ∀ i z, ¬ SeenC l 0 0 i z := by
    rintro i z ⟨_, ⟨h, _⟩ | ⟨_, h⟩⟩
    · omega
    · simp at h
  refine ⟨fun z => ⟨fun h => absurd h (by simp [Maps.has]), fun ⟨i, h⟩ => (hn i z h).elim⟩, fun z i h _ => (hn i z h).elim, fun _ => ⟨rfl, rfl, fun i k z _ h _ => hn i z h⟩, fun h => by cases h⟩
theorem CS.next {l : List BodD} {j x : Nat} {D : DataW Unit} {p q : Int} {f : Bool} (h : CS l j x D p q f) (hj : j < l.length) (hx : x = (fpB l[j]).length) : CS l (j + 1) 0 D p q f := by
  have e := seen_next hj hx
  obtain ⟨h1, h2, h3, h4⟩ := h
  refine ⟨fun z => (h1 z).trans ⟨fun ⟨i, h⟩ => ⟨i, (e i z).2 h⟩, fun ⟨i, h⟩ => ⟨i, (e i z).1 h⟩⟩, fun z i hi hm => h2 z i ((e i z).1 hi) (fun i' h' => hm i' ((e i' z).2 h')), fun hf => ?_, fun hf => ?_⟩
  · obtain ⟨a, b, c⟩ := h3 hf
    exact ⟨a, b, fun i k z hik u v => c i k z hik ((e i z).1 u) ((e k z).1 v)⟩
  · obtain ⟨i, k, a, b, c, ⟨z, d1, d2⟩, g⟩ := h4 hf
    exact ⟨i, k, a, b, c, ⟨z, (e i z).2 d1, (e k z).2 d2⟩, fun i' k' z' hik u v => g i' k' z' hik ((e i' z').1 u) ((e k' z').1 v)⟩
theorem wf_key (z : Int) : WideAt.IsKeyLit (Lit.int .i64 z) := by unfold WideAt.IsKeyLit; trivial
/-- A cell that no robot had. -/
theorem CS.add {l : List BodD} {j x : Nat} {D : DataW Unit} {p q : Int} {f : Bool} (h : CS l j x D p q f) (hj : j < l.length) (hx : x < (fpB l[j]).length) (hD : Maps.IsMap D) (hn : Maps.has D (.int .i64 (fpB l[j])[x]) = false) : CS l j (x + 1) (D.put (.int .i64 (fpB l[j])[x]) (.lit (.int .i64 j))) p q f := by
  have e := seen_succ hj hx
  obtain ⟨h1, h2, h3, h4⟩ := h
  generalize hz : (fpB l[j])[x] = c at *
  have hno : ∀ i, ¬ SeenC l j x i c := fun i hi => by
    have := (h1 c).2 ⟨i, hi⟩
    rw [hn] at this
    cases this
  have hsame : ∀ i k z, i < k → SeenC l j (x + 1) i z → SeenC l j (x + 1) k z → SeenC l j x i z ∧ SeenC l j x k z := fun i k z hik u v => by
    rcases (e i z).1 u with u | ⟨u1, u2⟩
    · rcases (e k z).1 v with v | ⟨v1, v2⟩
      · exact ⟨u, v⟩
      · exact (hno i (v2 ▸ u)).elim
    · rcases (e k z).1 v with v | ⟨v1, v2⟩
      · exact (hno k (u2 ▸ v)).elim
      · omega
  refine ⟨fun z => ?_, fun z i hi hm => ?_, fun hf => ?_, fun hf => ?_⟩
  · by_cases hc : z = c
    · subst hc
      exact ⟨fun _ => ⟨j, (e j z).2 (.inr ⟨rfl, rfl⟩)⟩, fun _ => Maps.has_put_same hD (wf_key z) _⟩
    · rw [Maps.has_put_other (fun e => hc (by injection e))]
      refine (h1 z).trans ⟨fun ⟨i, hi⟩ => ⟨i, (e i z).2 (.inl hi)⟩, fun ⟨i, hi⟩ => ?_⟩
      rcases (e i z).1 hi with hi | ⟨_, hi⟩
      · exact ⟨i, hi⟩
      · exact (hc hi).elim
  · by_cases hc : z = c
    · subst hc
      rw [Maps.atKey_put_same hD (wf_key z)]
      rcases (e i z).1 hi with hi | ⟨rfl, _⟩
      · exact (hno i hi).elim
      · rfl
    · rw [Maps.atKey_put_other (fun e => hc (by injection e))]
      rcases (e i z).1 hi with hi | ⟨_, hi⟩
      · exact h2 z i hi (fun i' h' => hm i' ((e i' z).2 (.inl h')))
      · exact (hc hi).elim
  · obtain ⟨a, b, c'⟩ := h3 hf
    exact ⟨a, b, fun i k z hik u v => c' i k z hik (hsame i k z hik u v).1 (hsame i k z hik u v).2⟩
  · obtain ⟨i, k, a, b, c', ⟨z, d1, d2⟩, g⟩ := h4 hf
    exact ⟨i, k, a, b, c', ⟨z, (e i z).2 (.inl d1), (e k z).2 (.inl d2)⟩, fun i' k' z' hik u v => g i' k' z' hik (hsame i' k' z' hik u v).1 (hsame i' k' z' hik u v).2⟩
/-- The first robot that had a cell. -/
theorem CS.first {l : List BodD} {j x : Nat} {D : DataW Unit} {p q : Int} {f : Bool} (h : CS l j x D p q f) (z : Int) (hz : Maps.has D (.int .i64 z) = true) : ∃ i : Nat, D.atKey (.int .i64 z) (.lit (.int .i64 0)) = .lit (.int .i64 i) ∧ SeenC l j x i z ∧ ∀ i', SeenC l j x i' z → i ≤ i' := by
  obtain ⟨i, hi⟩ := (h.keys z).1 hz
  have : ∀ n i, i ≤ n → SeenC l j x i z → ∃ m, SeenC l j x m z ∧ ∀ i', SeenC l j x i' z → m ≤ i' := by
    intro n
    induction n with
    | zero => exact fun i h0 hi => ⟨i, hi, fun i' _ => by omega⟩
    | succ n ih =>
      intro i hin hi
      rcases Classical.em (∃ k, k < i ∧ SeenC l j x k z) with ⟨k, hk, hs⟩ | hnk
      · exact ih k (by omega) hs
      · exact ⟨i, hi, fun i' h' => by
          rcases Nat.lt_or_ge i' i with h1 | h1
          · exact (hnk ⟨i', h1, h'⟩).elim
          · exact h1⟩
  obtain ⟨m, hm, hmin⟩ := this i i (Nat.le_refl _) hi
  exact ⟨m, h.vals z m hm hmin, hm, hmin⟩
/-- A cell that a robot had: a new pair, or an older one that comes first. -/
theorem CS.hit {l : List BodD} {j x : Nat} {D : DataW Unit} {p q : Int} {f : Bool} (h : CS l j x D p q f) (hj : j < l.length) (hx : x < (fpB l[j]).length) {m : Nat} (hm : SeenC l j x m (fpB l[j])[x]) (hmin : ∀ i', SeenC l j x i' (fpB l[j])[x] → m ≤ i') :
    ((f = false ∨ (m : Int) < p) → CS l j (x + 1) D m j true) ∧ (f = true → ¬ (m : Int) < p → CS l j (x + 1) D p q f) := by
  have e := seen_succ hj hx
  have hnew := seen_new hj hx
  have hmj : m < j := by
    have h1 := hm.le
    rcases Nat.lt_or_ge m j with h2 | h2
    · exact h2
    · have h3 : m = j := by omega
      exact (hnew (h3 ▸ hm)).elim
  obtain ⟨h1, h2, h3, h4⟩ := h
  generalize hz : (fpB l[j])[x] = c at *
  have k1 : ∀ z, Maps.has D (.int .i64 z) = true ↔ ∃ i, SeenC l j (x + 1) i z := fun z => by
    refine (h1 z).trans ⟨fun ⟨i, hi⟩ => ⟨i, (e i z).2 (.inl hi)⟩, fun ⟨i, hi⟩ => ?_⟩
    rcases (e i z).1 hi with hi | ⟨_, rfl⟩
    · exact ⟨i, hi⟩
    · exact ⟨m, hm⟩
  have k2 : ∀ z i, SeenC l j (x + 1) i z → (∀ i', SeenC l j (x + 1) i' z → i ≤ i') → D.atKey (.int .i64 z) (.lit (.int .i64 0)) = .lit (.int .i64 i) := fun z i hi hmn => by
    rcases (e i z).1 hi with h | ⟨rfl, rfl⟩
    · exact h2 z i h (fun i' h' => hmn i' ((e i' z).2 (.inl h')))
    · have := hmn m ((e m z).2 (.inl hm))
      omega
  have hpair : ∀ i k z, i < k → SeenC l j (x + 1) i z → SeenC l j (x + 1) k z → (SeenC l j x i z ∧ SeenC l j x k z) ∨ (m ≤ i ∧ k = j) := fun i k z hik u v => by
    rcases (e i z).1 u with u' | ⟨u1, u2⟩
    · rcases (e k z).1 v with v' | ⟨v1, v2⟩
      · exact .inl ⟨u', v'⟩
      · exact .inr ⟨hmin i (v2 ▸ u'), v1⟩
    · have := v.le
      omega
  refine ⟨fun hc => ⟨k1, k2, (fun hf => by cases hf), fun _ => ⟨m, j, rfl, rfl, hmj, ⟨c, (e m c).2 (.inl hm), (e j c).2 (.inr ⟨rfl, rfl⟩)⟩, fun i' k' z hik u v => ?_⟩⟩, fun hf hnp => ⟨k1, k2, (fun h => by rw [hf] at h; cases h), fun _ => ?_⟩⟩
  · rcases hpair i' k' z hik u v with ⟨u', v'⟩ | ⟨a, b⟩
    · cases hff : f with
      | false => exact ((h3 hff).2.2 i' k' z hik u' v').elim
      | true =>
        obtain ⟨i, k, a, b, c', _, g⟩ := h4 hff
        have hmp : (m : Int) < p := hc.elim (fun h => by rw [hff] at h; cases h) id
        rcases g i' k' z hik u' v' with g | ⟨g, _⟩
        · exact .inl (by omega)
        · exact .inl (by omega)
    · omega
  · obtain ⟨i, k, a, b, c', ⟨z, d1, d2⟩, g⟩ := h4 hf
    refine ⟨i, k, a, b, c', ⟨z, (e i z).2 (.inl d1), (e k z).2 (.inl d2)⟩, fun i' k' z' hik u v => ?_⟩
    rcases hpair i' k' z' hik u v with ⟨u', v'⟩ | ⟨r, s⟩
    · exact g i' k' z' hik u' v'
    · have := d2.le
      omega
theorem clash_run {l : List BodD} : ∀ i : Nat, i ≤ l.length → (∀ i' k (_ : i' < i) (hik : i' < k) (hk : k < l.length), meetB (l[i']'(by omega)) l[k] = false) → clashL l 0 = clashL (l.drop i) i
  | 0, _, _ => by simp
  | i + 1, hi, h => by
    rw [clash_run i (by omega) (fun i' k h1 h2 h3 => h i' k (by omega) h2 h3)]
    exact clash_step (by omega) (fun k h1 h2 => h i k (by omega) h1 h2)
theorem seen_all {l : List BodD} {i : Nat} {z : Int} : SeenC l l.length 0 i z ↔ ∃ h : i < l.length, z ∈ fpB l[i] := by
  constructor
  · rintro ⟨h, ⟨_, h2⟩ | ⟨_, h2⟩⟩
    · exact ⟨h, h2⟩
    · simp at h2
  · rintro ⟨h, h2⟩
    exact ⟨h, .inl ⟨h, h2⟩⟩
theorem CS.out {l : List BodD} {D : DataW Unit} {p q : Int} {f : Bool} (h : CS l l.length 0 D p q f) : clashV l = .tuple #[.int .i64 p, .int .i64 q, .bool f] := by
  have hs : ∀ i k (hik : i < k) (hk : k < l.length), meetB (l[i]'(by omega)) l[k] = true ↔ ∃ z, SeenC l l.length 0 i z ∧ SeenC l l.length 0 k z := fun i k hik hk => by
    rw [meet_iff]
    exact ⟨fun ⟨z, a, b⟩ => ⟨z, seen_all.2 ⟨by omega, a⟩, seen_all.2 ⟨hk, b⟩⟩, fun ⟨z, a, b⟩ => ⟨z, (seen_all.1 a).2, (seen_all.1 b).2⟩⟩
  cases f with
  | false =>
    obtain ⟨rfl, rfl, c⟩ := h.no rfl
    exact clashV_end (clash_run l.length (Nat.le_refl _) (fun i' k _ h2 h3 => by
      rw [Bool.eq_false_iff]
      intro ht
      obtain ⟨z, a, b⟩ := (hs i' k h2 h3).1 ht
      exact c i' k z h2 a b)) (Nat.le_refl _)
  | true =>
    obtain ⟨i, k, rfl, rfl, hik, ⟨z, d1, d2⟩, g⟩ := h.yes rfl
    have hk := d2.lt
    refine clashV_hit (clash_run i (by omega) (fun i' k' h1 h2 h3 => ?_)) (clash_hit hk hik ((hs i k hik hk).2 ⟨z, d1, d2⟩) (fun k' h1 h2 => ?_))
    · rw [Bool.eq_false_iff]
      intro ht
      obtain ⟨y, a, b⟩ := (hs i' k' h2 h3).1 ht
      rcases g i' k' y h2 a b with g | ⟨g, _⟩ <;> omega
    · rw [Bool.eq_false_iff]
      intro ht
      obtain ⟨y, a, b⟩ := (hs i k' h1 (by omega)).1 ht
      rcases g i k' y h1 a b with g | ⟨_, g⟩ <;> omega
end Go.Proofs.Ytmdnkpiihhaoeaa
namespace Go.Proofs.Ytmdnkpiihhaoeaa
open Go Go.RowKit Fl

end Go.Proofs.Ytmdnkpiihhaoeaa
namespace Go.Proofs.Ytmdnkpiihhaoeaa
open Go Go.RowKit Fl

def FitB (b : BodD) : Prop := (Lit.int .i64 b.cel).wf = true ∧ (Lit.int .i64 b.dst).wf = true
theorem FitB.cell {b : BodD} (h : FitB b) {z : Int} (hz : z ∈ fpB b) : (Lit.int .i64 z).wf = true := by
  unfold fpB at hz
  split at hz
  · simp at hz
  · split at hz
    · rw [List.mem_singleton] at hz
      rw [hz]
      exact h.1
    · simp only [List.mem_cons, List.not_mem_nil, or_false] at hz
      rcases hz with rfl | rfl
      · rcases Int.le_total b.cel b.dst with h1 | h1
        · rw [Int.min_eq_left h1]; exact h.1
        · rw [Int.min_eq_right h1]; exact h.2
      · rcases Int.le_total b.cel b.dst with h1 | h1
        · rw [Int.max_eq_right h1]; exact h.2
        · rw [Int.max_eq_left h1]; exact h.1
abbrev MapI (w : World) (M n : Nat) (D : DataW Unit) : Prop := w.ownsMap Try.prog 3 (plainElem Try.prog 3) M n D
theorem int_key : Maps.Keyed Try.prog 3 := Maps.int_keyed Try.underlying3
theorem key_int (z : Int) (h : (Lit.int .i64 z).wf = true) : keyOf Try.prog 3 (.int .i64 z) = some (.int .i64 z) := by
  simp [keyOf, mapKey, Try.underlying3, h]
theorem ownsMap_keep {w w' : World} {P : Program} {k : TypeId} {R : Value → Option (DataW Unit × List MemPlace)} {m n : Nat} {D : DataW Unit} (h : w.ownsMap P k R m n D) (hb : Below w.heap.size w w') : w'.ownsMap P k R m n D := by
  obtain ⟨es, clock, h1, r⟩ := h
  exact ⟨es, clock, (hb.block _ (block_lt h1)).trans h1, r⟩
theorem own_farC {w w' : World} {base X n : Nat} {e : TypeId} {size : Nat} {v : Value} {xs : List Value} (h : w.ownsRow base e size v n xs) (hg : w.grownBy w' (some X)) (hX : X < base) : w'.ownsRow base e size v n xs := by
  obtain ⟨h1, hr⟩ := h
  refine ⟨h1, ?_⟩
  rcases hr with hr | ⟨g, cap, cur, hv, hgb, hh, hrest⟩
  · exact .inl hr
  · exact .inr ⟨g, cap, cur, hv, hgb, (hg.block g (block_lt hh) (fun e => by injection e with e; omega)).trans hh, hrest⟩
end Go.Proofs.Ytmdnkpiihhaoeaa
