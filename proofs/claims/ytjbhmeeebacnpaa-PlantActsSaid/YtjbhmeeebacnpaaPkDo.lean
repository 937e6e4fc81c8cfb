/- Contracts of the landed Put, Begin, End, Work, Finish, Fault and Lift, and of law 16's act. -/
import Derived.Test.YtjbhmeeebacnpaaMzAU
import Derived.Test.YtjbhmeeebacnpaaMzAC
namespace Go.Proofs.Ytjbhmeeebacnpaa
open Go Go.RowKit Fl

theorem do_ch (fol : Bool) (l : List BodD) (r a c : Int) (hc : 0 ≤ c ∧ c < 48) : doE fol l r a c = chE l r (okB fol (bodAt l r) a) ∧ doL fol l r a c = chL l r (chgB (bodAt l r) a c) (okB fol (bodAt l r) a) := by
  by_cases h : rangeB l r c
  · have h' : 0 ≤ r ∧ r < (l.length : Int) := ⟨h.1, h.2.1⟩
    unfold chE chL
    rw [if_pos h', if_pos h']
    rcases okB_all fol (bodAt l r) a with hk | hk
    · rw [hk]
      exact do_ok h hk
    · rw [hk]
      exact do_no h hk
  · have h' : ¬ (0 ≤ r ∧ r < (l.length : Int)) := fun q => h ⟨q.1, q.2, hc⟩
    unfold chE chL
    rw [if_neg h', if_neg h']
    exact do_range h
set_option maxRecDepth 100000 in
set_option maxHeartbeats 2000000 in
theorem begin1_c (Ab An As Ar : Option Addr) (cb cn cs cr : Nat) (N : NetD) (b : BodD) (c : Int) (X P : Nat) (fol : Bool) (w : World) (hX : w.heap[X]? = some (.cells (netCells Ab An As Ar cb cn cs cr N) 29 (0, 0))) (hP : w.heap[P]? = some (.cells #[.int .i64 c] 3 (0, 0)))
    (hF : ∀ W, Below w.heap.size w W → Calls Try.prog 26 #[.agg #[.slice Ab N.blocks.length cb, .slice An N.next.length cn, .slice As N.spurs.length cs, .slice Ar N.robots.length cr, Iv N.queue, Iv N.aging, Iv N.detours, Iv N.patience], .int .i64 b.cel, .int .i64 c] W fun e w' => e = .returned (.bool fol) ∧ Below W.heap.size W w') :
    Calls Try.prog 44 #[BV b, .pointer (some ⟨X, 0, none⟩), .pointer (some ⟨P, 0, none⟩)] w fun e w' => e = .returned (.tuple #[BV ⟨b.cel, c, b.srv, b.flt⟩, .bool (restB b && fol)]) ∧ Below w.heap.size w w' := by
  have HT := Lib.hid (fun W => atRest_c b W)
  have HF := Lib.hid hF
  have HX := Lib.hid (fun W (hW : Below w.heap.size w W) => boxAt_of ((hW.block X (block_lt hX)).trans hX))
  have HP : Hid (∀ W, Below w.heap.size w W → W.cell? ⟨P, 0, none⟩ = some (.int .i64 c)) := Lib.hid (fun W hW => cell_of_one ((hW.block P (block_lt hP)).trans hP))
  clear hX hP hF
  generalize restB b = u at *
  have HZ := Lib.hid (two_bd w b zeroB)
  obtain ⟨cel, dst, srv, flt⟩ := b
  obtain ⟨g1, g2, g3⟩ := HZ.out
  have HG : Hid (BodAt ((w.alloc (.cells #[.int .i64 cel, .int .i64 dst, .bool srv, .bool flt] 40)).alloc (.cells #[.int .i64 0, .int .i64 0, .bool false, .bool false] 40)) (w.heap.size + 1) zeroB) := Lib.hid g1
  have HQ : Hid (BodAt ((w.alloc (.cells #[.int .i64 cel, .int .i64 dst, .bool srv, .bool flt] 40)).alloc (.cells #[.int .i64 0, .int .i64 0, .bool false, .bool false] 40)) w.heap.size ⟨cel, dst, srv, flt⟩) := Lib.hid g2
  have HB : Hid (Below w.heap.size w ((w.alloc (.cells #[.int .i64 cel, .int .i64 dst, .bool srv, .bool flt] 40)).alloc (.cells #[.int .i64 0, .int .i64 0, .bool false, .bool false] 40))) := Lib.hid g3
  have HB8 : Hid (∀ W, Below w.heap.size w W → ∀ p q r s : Value, Below w.heap.size w ((((W.setCell ⟨w.heap.size + 1, 0, none⟩ p).setCell ⟨w.heap.size + 1, 1, none⟩ q).setCell ⟨w.heap.size + 1, 2, none⟩ r).setCell ⟨w.heap.size + 1, 3, none⟩ s)) := Lib.hid (fun W h p q r s => below_put (below_put (below_put (below_put h (by omega)) (by omega)) (by omega)) (by omega))
  clear g1 g2 g3 HZ
  rcases u with _ | _
  · go_enter Try.func44, Try.ntmps44
    go_wp2_with fail
    generalize ((w.alloc (.cells #[.int .i64 cel, .int .i64 dst, .bool srv, .bool flt] 40)).alloc (.cells #[.int .i64 0, .int .i64 0, .bool false, .bool false] 40)) = w3 at *
    obtain ⟨y0, y1, y2, y3⟩ := HQ.out.cell
    obtain ⟨z0, z1, z2, z3⟩ := HG.out.cell
    have fq := HQ.out.frozen
    have fg := HG.out.frozen
    refine (HT.out _).mono ?_
    rintro e w4 ⟨rfl, hb4⟩
    replace HG := Lib.hid (HG.out.keep hb4)
    replace HQ := Lib.hid (HQ.out.keep hb4)
    replace HB := Lib.hid (HB.out.trans (hb4.mono HB.out.size))
    clear y0 y1 y2 y3 z0 z1 z2 z3 fq fg hb4
    obtain ⟨y0, y1, y2, y3⟩ := HQ.out.cell
    obtain ⟨z0, z1, z2, z3⟩ := HG.out.cell
    have fq := HQ.out.frozen
    have fg := HG.out.frozen
    obtain ⟨x0, x1, x2, x3, x4, x5, x6, x7⟩ := HX.out _ HB.out
    have p0 := HP.out _ HB.out
    have p0s := fun (v : Value) => HP.out _ (below_put (i := 1) (v := v) HB.out (Nat.le_refl _))
    go_wp2
    exact bodyPost_ret (results_bd rfl _ _ _ ⟨cel, c, srv, flt⟩ _ rfl ((HG.out.far (X := w.heap.size) (by omega)).put4 ⟨cel, c, srv, flt⟩) rfl) rfl ⟨rfl, HB8.out _ (by repeat (first | exact HB.out | refine below_put ?_ (Nat.le_refl _))) _ _ _ _⟩
  · go_enter Try.func44, Try.ntmps44
    go_wp2_with fail
    generalize ((w.alloc (.cells #[.int .i64 cel, .int .i64 dst, .bool srv, .bool flt] 40)).alloc (.cells #[.int .i64 0, .int .i64 0, .bool false, .bool false] 40)) = w3 at *
    obtain ⟨y0, y1, y2, y3⟩ := HQ.out.cell
    obtain ⟨z0, z1, z2, z3⟩ := HG.out.cell
    have fq := HQ.out.frozen
    have fg := HG.out.frozen
    refine (HT.out _).mono ?_
    rintro e w4 ⟨rfl, hb4⟩
    replace HG := Lib.hid (HG.out.keep hb4)
    replace HQ := Lib.hid (HQ.out.keep hb4)
    replace HB := Lib.hid (HB.out.trans (hb4.mono HB.out.size))
    clear y0 y1 y2 y3 z0 z1 z2 z3 fq fg hb4
    obtain ⟨y0, y1, y2, y3⟩ := HQ.out.cell
    obtain ⟨z0, z1, z2, z3⟩ := HG.out.cell
    have fq := HQ.out.frozen
    have fg := HG.out.frozen
    obtain ⟨x0, x1, x2, x3, x4, x5, x6, x7⟩ := HX.out _ HB.out
    have p0 := HP.out _ HB.out
    have p0s := fun (v : Value) => HP.out _ (below_put (i := 1) (v := v) HB.out (Nat.le_refl _))
    go_wp2_with fail
    refine (HF.out _ HB.out).mono ?_
    clear x0 x1 x2 x3 x4 x5 x6 x7 p0 p0s
    rintro e w4 ⟨rfl, hb4⟩
    replace HG := Lib.hid (HG.out.keep hb4)
    replace HQ := Lib.hid (HQ.out.keep hb4)
    replace HB := Lib.hid (HB.out.trans (hb4.mono HB.out.size))
    clear y0 y1 y2 y3 z0 z1 z2 z3 fq fg hb4
    obtain ⟨y0, y1, y2, y3⟩ := HQ.out.cell
    obtain ⟨z0, z1, z2, z3⟩ := HG.out.cell
    have fq := HQ.out.frozen
    have fg := HG.out.frozen
    have p0 := HP.out _ HB.out
    have p0s := fun (v : Value) => HP.out _ (below_put (i := 1) (v := v) HB.out (Nat.le_refl _))
    go_wp2
    exact bodyPost_ret (results_bd rfl _ _ _ ⟨cel, c, srv, flt⟩ _ rfl ((HG.out.far (X := w.heap.size) (by omega)).put4 ⟨cel, c, srv, flt⟩) rfl) rfl ⟨rfl, HB8.out _ (by repeat (first | exact HB.out | refine below_put ?_ (Nat.le_refl _))) _ _ _ _⟩
set_option maxRecDepth 100000 in
set_option maxHeartbeats 2000000 in
theorem devEnd_c (A : Option Addr) (cap n : Nat) (l : List BodD) (hn : l.length = n) (r : Int) (fol : Bool) (w : World) (hh : Holds w A (bodS.cs l)) (hn6 : n ≤ 5864062014805) :
    Calls Try.prog 27 #[.slice A n cap, .int .i64 r] w fun e w' => ∃ v, e = .returned (.tuple #[v, .int .i64 (doE fol l r 2 0)]) ∧ bodS.Own w' w.heap.size v (doL fol l r 2 0) ∧ Below w.heap.size w w' := by
  have h := devChange_c A cap n l hn r 46 #[] (chgB (bodAt l r) 2 0) (okB fol (bodAt l r) 2) w hh hn6 (enters Try.func46 (by kernel_rfl) rfl) (fun W _ => end1_c (bodAt l r) W)
  rw [← (do_ch fol l r 2 0 (by decide)).1, ← (do_ch fol l r 2 0 (by decide)).2] at h
  generalize doE fol l r 2 0 = E at *
  generalize doL fol l r 2 0 = L at *
  have HC := Lib.hid h
  clear h hh hn
  go_enter Try.func27, Try.ntmps27
  go_wp2_with fail
  refine HC.out.mono ?_
  rintro e w2 ⟨v, rfl, ho, hb⟩
  have HO := Lib.hid ho
  have HB := Lib.hid hb
  clear ho hb HC
  go_wp2
  go_ret2
  exact ⟨_, rfl, HO.out, HB.out⟩
set_option maxRecDepth 100000 in
set_option maxHeartbeats 2000000 in
theorem devWork_c (A : Option Addr) (cap n : Nat) (l : List BodD) (hn : l.length = n) (r : Int) (fol : Bool) (w : World) (hh : Holds w A (bodS.cs l)) (hn6 : n ≤ 5864062014805) :
    Calls Try.prog 30 #[.slice A n cap, .int .i64 r] w fun e w' => ∃ v, e = .returned (.tuple #[v, .int .i64 (doE fol l r 3 0)]) ∧ bodS.Own w' w.heap.size v (doL fol l r 3 0) ∧ Below w.heap.size w w' := by
  have h := devChange_c A cap n l hn r 50 #[] (chgB (bodAt l r) 3 0) (okB fol (bodAt l r) 3) w hh hn6 (enters Try.func50 (by kernel_rfl) rfl) (fun W _ => work1_c (bodAt l r) W)
  rw [← (do_ch fol l r 3 0 (by decide)).1, ← (do_ch fol l r 3 0 (by decide)).2] at h
  generalize doE fol l r 3 0 = E at *
  generalize doL fol l r 3 0 = L at *
  have HC := Lib.hid h
  clear h hh hn
  go_enter Try.func30, Try.ntmps30
  go_wp2_with fail
  refine HC.out.mono ?_
  rintro e w2 ⟨v, rfl, ho, hb⟩
  have HO := Lib.hid ho
  have HB := Lib.hid hb
  clear ho hb HC
  go_wp2
  go_ret2
  exact ⟨_, rfl, HO.out, HB.out⟩
set_option maxRecDepth 100000 in
set_option maxHeartbeats 2000000 in
theorem devFinish_c (A : Option Addr) (cap n : Nat) (l : List BodD) (hn : l.length = n) (r : Int) (fol : Bool) (w : World) (hh : Holds w A (bodS.cs l)) (hn6 : n ≤ 5864062014805) :
    Calls Try.prog 31 #[.slice A n cap, .int .i64 r] w fun e w' => ∃ v, e = .returned (.tuple #[v, .int .i64 (doE fol l r 4 0)]) ∧ bodS.Own w' w.heap.size v (doL fol l r 4 0) ∧ Below w.heap.size w w' := by
  have h := devChange_c A cap n l hn r 51 #[] (chgB (bodAt l r) 4 0) (okB fol (bodAt l r) 4) w hh hn6 (enters Try.func51 (by kernel_rfl) rfl) (fun W _ => finish1_c (bodAt l r) W)
  rw [← (do_ch fol l r 4 0 (by decide)).1, ← (do_ch fol l r 4 0 (by decide)).2] at h
  generalize doE fol l r 4 0 = E at *
  generalize doL fol l r 4 0 = L at *
  have HC := Lib.hid h
  clear h hh hn
  go_enter Try.func31, Try.ntmps31
  go_wp2_with fail
  refine HC.out.mono ?_
  rintro e w2 ⟨v, rfl, ho, hb⟩
  have HO := Lib.hid ho
  have HB := Lib.hid hb
  clear ho hb HC
  go_wp2
  go_ret2
  exact ⟨_, rfl, HO.out, HB.out⟩
set_option maxRecDepth 100000 in
set_option maxHeartbeats 2000000 in
theorem devFault_c (A : Option Addr) (cap n : Nat) (l : List BodD) (hn : l.length = n) (r : Int) (fol : Bool) (w : World) (hh : Holds w A (bodS.cs l)) (hn6 : n ≤ 5864062014805) :
    Calls Try.prog 21 #[.slice A n cap, .int .i64 r] w fun e w' => ∃ v, e = .returned (.tuple #[v, .int .i64 (doE fol l r 5 0)]) ∧ bodS.Own w' w.heap.size v (doL fol l r 5 0) ∧ Below w.heap.size w w' := by
  have h := devChange_c A cap n l hn r 36 #[] (chgB (bodAt l r) 5 0) (okB fol (bodAt l r) 5) w hh hn6 (enters Try.func36 (by kernel_rfl) rfl) (fun W _ => fault1_c (bodAt l r) W)
  rw [← (do_ch fol l r 5 0 (by decide)).1, ← (do_ch fol l r 5 0 (by decide)).2] at h
  generalize doE fol l r 5 0 = E at *
  generalize doL fol l r 5 0 = L at *
  have HC := Lib.hid h
  clear h hh hn
  go_enter Try.func21, Try.ntmps21
  go_wp2_with fail
  refine HC.out.mono ?_
  rintro e w2 ⟨v, rfl, ho, hb⟩
  have HO := Lib.hid ho
  have HB := Lib.hid hb
  clear ho hb HC
  go_wp2
  go_ret2
  exact ⟨_, rfl, HO.out, HB.out⟩
set_option maxRecDepth 100000 in
set_option maxHeartbeats 2000000 in
theorem devLift_c (A : Option Addr) (cap n : Nat) (l : List BodD) (hn : l.length = n) (r : Int) (fol : Bool) (w : World) (hh : Holds w A (bodS.cs l)) (hn6 : n ≤ 5864062014805) :
    Calls Try.prog 22 #[.slice A n cap, .int .i64 r] w fun e w' => ∃ v, e = .returned (.tuple #[v, .int .i64 (doE fol l r 6 0)]) ∧ bodS.Own w' w.heap.size v (doL fol l r 6 0) ∧ Below w.heap.size w w' := by
  have h := devChange_c A cap n l hn r 37 #[] (chgB (bodAt l r) 6 0) (okB fol (bodAt l r) 6) w hh hn6 (enters Try.func37 (by kernel_rfl) rfl) (fun W _ => lift1_c (bodAt l r) W)
  rw [← (do_ch fol l r 6 0 (by decide)).1, ← (do_ch fol l r 6 0 (by decide)).2] at h
  generalize doE fol l r 6 0 = E at *
  generalize doL fol l r 6 0 = L at *
  have HC := Lib.hid h
  clear h hh hn
  go_enter Try.func22, Try.ntmps22
  go_wp2_with fail
  refine HC.out.mono ?_
  rintro e w2 ⟨v, rfl, ho, hb⟩
  have HO := Lib.hid ho
  have HB := Lib.hid hb
  clear ho hb HC
  go_wp2
  go_ret2
  exact ⟨_, rfl, HO.out, HB.out⟩
set_option maxRecDepth 100000 in
set_option maxHeartbeats 2000000 in
theorem devPut_c (A : Option Addr) (cap n : Nat) (l : List BodD) (hn : l.length = n) (r c : Int) (fol : Bool) (w : World) (hh : Holds w A (bodS.cs l)) (hn6 : n ≤ 5864062014805) :
    Calls Try.prog 23 #[.slice A n cap, .int .i64 r, .int .i64 c] w fun e w' => ∃ v, e = .returned (.tuple #[v, .int .i64 (doE fol l r 0 c)]) ∧ bodS.Own w' w.heap.size v (doL fol l r 0 c) ∧ Below w.heap.size w w' := by
  have HI := Lib.hid (fun W => isCell_c c W)
  have HB0 := Lib.hid (below_newB w (.cells #[.int .i64 c] 3))
  have HP0 : Hid ((w.alloc (.cells #[.int .i64 c] 3)).heap[w.heap.size]? = some (.cells #[.int .i64 c] 3 (0, 0))) := Lib.hid (heap_alloc_new w _)
  have pc : (w.alloc (.cells #[.int .i64 c] 3)).cell? ⟨w.heap.size, 0, none⟩ = some (.int .i64 c) := cell_of_one HP0.out
  by_cases hc : 0 ≤ c ∧ c < 48
  · have hcb : cellB c = true := decide_eq_true hc
    rw [hcb] at HI
    have hC := fun W (hW : Below w.heap.size w W) (hP : W.heap[w.heap.size]? = some (.cells #[.int .i64 c] 3 (0, 0))) => devChange_c A cap n l hn r 41 #[.pointer (some ⟨w.heap.size, 0, none⟩)] (chgB (bodAt l r) 0 c) (okB fol (bodAt l r) 0) W (hh.keep hW) hn6 (enters Try.func41 (by kernel_rfl) rfl) (fun W2 hW2 => put1_c (bodAt l r) c w.heap.size W2 ((hW2.block _ (block_lt hP)).trans hP))
    rw [← (do_ch fol l r 0 c hc).1, ← (do_ch fol l r 0 c hc).2] at hC
    generalize doE fol l r 0 c = E at *
    generalize doL fol l r 0 c = L at *
    have HC := Lib.hid hC
    clear hC hh hn hcb hc
    go_enter Try.func23, Try.ntmps23
    go_wp2_with fail
    refine (HI.out _).mono ?_
    rintro e w2 ⟨rfl, hb2⟩
    have HB2 := Lib.hid (HB0.out.trans (hb2.mono HB0.out.size))
    have HP2 := Lib.hid ((hb2.block _ (block_lt HP0.out)).trans HP0.out)
    clear hb2 HB0 HP0 pc HI
    have hmf : ∀ (fn : Fn) (first cap : Array Value) (w : World), (Instr.makeFunc fn first cap).run Try.prog w = .ok (.func fn first cap) w := fun _ _ _ _ => rfl
    go_wp2_with fail
    refine (HC.out _ HB2.out HP2.out).mono ?_
    rintro e w3 ⟨v, rfl, ho, hb⟩
    have HO := Lib.hid (ho.base HB2.out.size)
    have HB := Lib.hid (HB2.out.trans (hb.mono HB2.out.size))
    clear ho hb HC HB2 HP2
    go_wp2
    go_ret2
    exact ⟨_, rfl, HO.out, HB.out⟩
  · have hcb : cellB c = false := decide_eq_false hc
    rw [hcb] at HI
    have HE := Lib.hid (do_range (fol := fol) (a := 0) (fun (h : rangeB l r c) => hc h.2.2))
    rw [HE.out.1, HE.out.2]
    clear HE hc hcb hh hn
    go_enter Try.func23, Try.ntmps23
    go_wp2_with fail
    refine (HI.out _).mono ?_
    rintro e w2 ⟨rfl, hb2⟩
    have HB2 := Lib.hid (HB0.out.trans (hb2.mono HB0.out.size))
    clear hb2 HB0 HP0 pc HI
    go_wp2
    go_ret2
    exact ⟨_, rfl, StK.Own.nil _ _ _, HB2.out⟩
set_option maxRecDepth 100000 in
set_option maxHeartbeats 2000000 in
theorem devBegin_c (Ab An As Ar : Option Addr) (cb cn cs cr : Nat) (N : NetD) (A : Option Addr) (cap n : Nat) (l : List BodD) (hn : l.length = n) (r c : Int) (fol : Bool) (w : World) (hh : Holds w A (bodS.cs l)) (hn6 : n ≤ 5864062014805)
    (hF : ∀ W, Below w.heap.size w W → Calls Try.prog 26 #[.agg #[.slice Ab N.blocks.length cb, .slice An N.next.length cn, .slice As N.spurs.length cs, .slice Ar N.robots.length cr, Iv N.queue, Iv N.aging, Iv N.detours, Iv N.patience], .int .i64 (bodAt l r).cel, .int .i64 c] W fun e w' => e = .returned (.bool fol) ∧ Below W.heap.size W w') :
    Calls Try.prog 25 #[.agg #[.slice Ab N.blocks.length cb, .slice An N.next.length cn, .slice As N.spurs.length cs, .slice Ar N.robots.length cr, Iv N.queue, Iv N.aging, Iv N.detours, Iv N.patience], .slice A n cap, .int .i64 r, .int .i64 c] w fun e w' => ∃ v, e = .returned (.tuple #[v, .int .i64 (doE fol l r 1 c)]) ∧ bodS.Own w' w.heap.size v (doL fol l r 1 c) ∧ Below w.heap.size w w' := by
  have HI := Lib.hid (fun W => isCell_c c W)
  have s1 : (w.alloc (.cells (netCells Ab An As Ar cb cn cs cr N) 29)).heap.size = w.heap.size + 1 := by simp
  have HB0 : Hid (Below w.heap.size w ((w.alloc (.cells (netCells Ab An As Ar cb cn cs cr N) 29)).alloc (.cells #[.int .i64 c] 3))) := Lib.hid ((below_newB w _).alloc (by omega) _)
  have HP0 : Hid (((w.alloc (.cells (netCells Ab An As Ar cb cn cs cr N) 29)).alloc (.cells #[.int .i64 c] 3)).heap[w.heap.size + 1]? = some (.cells #[.int .i64 c] 3 (0, 0))) := Lib.hid (by
    have h := heap_alloc_new (w.alloc (.cells (netCells Ab An As Ar cb cn cs cr N) 29)) (.cells #[.int .i64 c] 3)
    rw [s1] at h
    exact h)
  have HX0 : Hid (((w.alloc (.cells (netCells Ab An As Ar cb cn cs cr N) 29)).alloc (.cells #[.int .i64 c] 3)).heap[w.heap.size]? = some (.cells (netCells Ab An As Ar cb cn cs cr N) 29 (0, 0))) := Lib.hid ((Below.heap_alloc _ _ _ (by rw [s1]; omega)).trans (heap_alloc_new w _))
  have pc : ((w.alloc (.cells (netCells Ab An As Ar cb cn cs cr N) 29)).alloc (.cells #[.int .i64 c] 3)).cell? ⟨w.heap.size + 1, 0, none⟩ = some (.int .i64 c) := cell_of_one HP0.out
  clear s1
  by_cases hc : 0 ≤ c ∧ c < 48
  · have hcb : cellB c = true := decide_eq_true hc
    rw [hcb] at HI
    have hC := fun W (hW : Below w.heap.size w W) (hX : W.heap[w.heap.size]? = some (.cells (netCells Ab An As Ar cb cn cs cr N) 29 (0, 0))) (hP : W.heap[w.heap.size + 1]? = some (.cells #[.int .i64 c] 3 (0, 0))) => devChange_c A cap n l hn r 44 #[.pointer (some ⟨w.heap.size, 0, none⟩), .pointer (some ⟨w.heap.size + 1, 0, none⟩)] (chgB (bodAt l r) 1 c) (okB fol (bodAt l r) 1) W (hh.keep hW) hn6 (enters Try.func44 (by kernel_rfl) rfl) (fun W2 hW2 => begin1_c Ab An As Ar cb cn cs cr N (bodAt l r) c w.heap.size (w.heap.size + 1) fol W2 ((hW2.block _ (block_lt hX)).trans hX) ((hW2.block _ (block_lt hP)).trans hP) (fun W3 hW3 => hF W3 ((hW.trans (hW2.mono hW.size)).trans (hW3.mono (Nat.le_trans hW.size hW2.size)))))
    rw [← (do_ch fol l r 1 c hc).1, ← (do_ch fol l r 1 c hc).2] at hC
    generalize doE fol l r 1 c = E at *
    generalize doL fol l r 1 c = L at *
    have HC := Lib.hid hC
    clear hC hh hn hcb hc hF
    go_enter Try.func25, Try.ntmps25
    go_wp2_with fail
    refine (HI.out _).mono ?_
    rintro e w2 ⟨rfl, hb2⟩
    have HB2 := Lib.hid (HB0.out.trans (hb2.mono HB0.out.size))
    have HP2 := Lib.hid ((hb2.block _ (block_lt HP0.out)).trans HP0.out)
    have HX2 := Lib.hid ((hb2.block _ (block_lt HX0.out)).trans HX0.out)
    clear hb2 HB0 HP0 HX0 pc HI
    have hmf : ∀ (fn : Fn) (first cap : Array Value) (w : World), (Instr.makeFunc fn first cap).run Try.prog w = .ok (.func fn first cap) w := fun _ _ _ _ => rfl
    go_wp2_with fail
    refine (HC.out _ HB2.out HX2.out HP2.out).mono ?_
    rintro e w3 ⟨v, rfl, ho, hb⟩
    have HO := Lib.hid (ho.base HB2.out.size)
    have HB := Lib.hid (HB2.out.trans (hb.mono HB2.out.size))
    clear ho hb HC HB2 HP2 HX2
    go_wp2
    go_ret2
    exact ⟨_, rfl, HO.out, HB.out⟩
  · have hcb : cellB c = false := decide_eq_false hc
    rw [hcb] at HI
    have HE := Lib.hid (do_range (fol := fol) (a := 1) (fun (h : rangeB l r c) => hc h.2.2))
    rw [HE.out.1, HE.out.2]
    clear HE hc hcb hh hn hF
    go_enter Try.func25, Try.ntmps25
    go_wp2_with fail
    refine (HI.out _).mono ?_
    rintro e w2 ⟨rfl, hb2⟩
    have HB2 := Lib.hid (HB0.out.trans (hb2.mono HB0.out.size))
    clear hb2 HB0 HP0 HX0 pc HI
    go_wp2
    go_ret2
    exact ⟨_, rfl, StK.Own.nil _ _ _, HB2.out⟩
/-- The cell that counts for an action. -/
def aC (a c : Int) : Int := if a = 0 ∨ a = 1 then c else 0
/-- An action from 6 on lifts. -/
def aA (a : Int) : Int := if 0 ≤ a ∧ a ≤ 5 then a else 6
set_option maxRecDepth 100000 in
set_option maxHeartbeats 2000000 in
theorem act_c (Ab An As Ar : Option Addr) (cb cn cs cr : Nat) (N : NetD) (A : Option Addr) (cap n : Nat) (l : List BodD) (hn : l.length = n) (r a c : Int) (fol : Bool) (w : World) (hh : Holds w A (bodS.cs l)) (hn6 : n ≤ 5864062014805) (ha : 0 ≤ a ∧ a ≤ 6)
    (hF : ∀ W, Below w.heap.size w W → Calls Try.prog 26 #[.agg #[.slice Ab N.blocks.length cb, .slice An N.next.length cn, .slice As N.spurs.length cs, .slice Ar N.robots.length cr, Iv N.queue, Iv N.aging, Iv N.detours, Iv N.patience], .int .i64 (bodAt l r).cel, .int .i64 c] W fun e w' => e = .returned (.bool fol) ∧ Below W.heap.size W w') :
    Calls Try.prog 13 #[.agg #[.slice Ab N.blocks.length cb, .slice An N.next.length cn, .slice As N.spurs.length cs, .slice Ar N.robots.length cr, Iv N.queue, Iv N.aging, Iv N.detours, Iv N.patience], .slice A n cap, .int .i64 r, .int .i64 a, .int .i64 c] w fun e w' => ∃ v, e = .returned (.tuple #[v, .int .i64 (doE fol l r a (aC a c))]) ∧ bodS.Own w' w.heap.size v (doL fol l r a (aC a c)) ∧ Below w.heap.size w w' := by
  have HB0 := Lib.hid (below_newB w (.cells (netCells Ab An As Ar cb cn cs cr N) 29))
  obtain ⟨x0, x1, x2, x3, x4, x5, x6, x7⟩ := boxAt_of (heap_alloc_new w (.cells (netCells Ab An As Ar cb cn cs cr N) 29))
  have h7 : a = 0 ∨ a = 1 ∨ a = 2 ∨ a = 3 ∨ a = 4 ∨ a = 5 ∨ a = 6 := by omega
  clear ha
  rcases h7 with rfl | rfl | rfl | rfl | rfl | rfl | rfl
  · rw [show aC 0 c = c from rfl]
    have HC := Lib.hid (devPut_c A cap n l hn r c fol _ (hh.keep HB0.out) hn6)
    generalize doE fol l r 0 c = E at *
    generalize doL fol l r 0 c = L at *
    clear hh hn hF
    go_enter Try.func13, Try.ntmps13
    go_wp2_with fail
    refine HC.out.mono ?_
    rintro e w3 ⟨v, rfl, ho, hb⟩
    have HO := Lib.hid (ho.base HB0.out.size)
    have HB := Lib.hid (HB0.out.trans (hb.mono HB0.out.size))
    clear ho hb HC
    go_wp2
    go_ret2
    exact ⟨_, rfl, HO.out, HB.out⟩
  · rw [show aC 1 c = c from rfl]
    have HC := Lib.hid (devBegin_c Ab An As Ar cb cn cs cr N A cap n l hn r c fol _ (hh.keep HB0.out) hn6 (fun W hW => hF W (HB0.out.trans (hW.mono HB0.out.size))))
    generalize doE fol l r 1 c = E at *
    generalize doL fol l r 1 c = L at *
    clear hh hn hF
    go_enter Try.func13, Try.ntmps13
    go_wp2_with fail
    refine HC.out.mono ?_
    rintro e w3 ⟨v, rfl, ho, hb⟩
    have HO := Lib.hid (ho.base HB0.out.size)
    have HB := Lib.hid (HB0.out.trans (hb.mono HB0.out.size))
    clear ho hb HC
    go_wp2
    go_ret2
    exact ⟨_, rfl, HO.out, HB.out⟩
  · rw [show aC 2 c = 0 from rfl]
    have HC := Lib.hid (devEnd_c A cap n l hn r fol _ (hh.keep HB0.out) hn6)
    generalize doE fol l r 2 0 = E at *
    generalize doL fol l r 2 0 = L at *
    clear hh hn hF
    go_enter Try.func13, Try.ntmps13
    go_wp2_with fail
    refine HC.out.mono ?_
    rintro e w3 ⟨v, rfl, ho, hb⟩
    have HO := Lib.hid (ho.base HB0.out.size)
    have HB := Lib.hid (HB0.out.trans (hb.mono HB0.out.size))
    clear ho hb HC
    go_wp2
    go_ret2
    exact ⟨_, rfl, HO.out, HB.out⟩
  · rw [show aC 3 c = 0 from rfl]
    have HC := Lib.hid (devWork_c A cap n l hn r fol _ (hh.keep HB0.out) hn6)
    generalize doE fol l r 3 0 = E at *
    generalize doL fol l r 3 0 = L at *
    clear hh hn hF
    go_enter Try.func13, Try.ntmps13
    go_wp2_with fail
    refine HC.out.mono ?_
    rintro e w3 ⟨v, rfl, ho, hb⟩
    have HO := Lib.hid (ho.base HB0.out.size)
    have HB := Lib.hid (HB0.out.trans (hb.mono HB0.out.size))
    clear ho hb HC
    go_wp2
    go_ret2
    exact ⟨_, rfl, HO.out, HB.out⟩
  · rw [show aC 4 c = 0 from rfl]
    have HC := Lib.hid (devFinish_c A cap n l hn r fol _ (hh.keep HB0.out) hn6)
    generalize doE fol l r 4 0 = E at *
    generalize doL fol l r 4 0 = L at *
    clear hh hn hF
    go_enter Try.func13, Try.ntmps13
    go_wp2_with fail
    refine HC.out.mono ?_
    rintro e w3 ⟨v, rfl, ho, hb⟩
    have HO := Lib.hid (ho.base HB0.out.size)
    have HB := Lib.hid (HB0.out.trans (hb.mono HB0.out.size))
    clear ho hb HC
    go_wp2
    go_ret2
    exact ⟨_, rfl, HO.out, HB.out⟩
  · rw [show aC 5 c = 0 from rfl]
    have HC := Lib.hid (devFault_c A cap n l hn r fol _ (hh.keep HB0.out) hn6)
    generalize doE fol l r 5 0 = E at *
    generalize doL fol l r 5 0 = L at *
    clear hh hn hF
    go_enter Try.func13, Try.ntmps13
    go_wp2_with fail
    refine HC.out.mono ?_
    rintro e w3 ⟨v, rfl, ho, hb⟩
    have HO := Lib.hid (ho.base HB0.out.size)
    have HB := Lib.hid (HB0.out.trans (hb.mono HB0.out.size))
    clear ho hb HC
    go_wp2
    go_ret2
    exact ⟨_, rfl, HO.out, HB.out⟩
  · rw [show aC 6 c = 0 from rfl]
    have HC := Lib.hid (devLift_c A cap n l hn r fol _ (hh.keep HB0.out) hn6)
    generalize doE fol l r 6 0 = E at *
    generalize doL fol l r 6 0 = L at *
    clear hh hn hF
    go_enter Try.func13, Try.ntmps13
    go_wp2_with fail
    refine HC.out.mono ?_
    rintro e w3 ⟨v, rfl, ho, hb⟩
    have HO := Lib.hid (ho.base HB0.out.size)
    have HB := Lib.hid (HB0.out.trans (hb.mono HB0.out.size))
    clear ho hb HC
    go_wp2
    go_ret2
    exact ⟨_, rfl, HO.out, HB.out⟩
end Go.Proofs.Ytjbhmeeebacnpaa
