/- Contract of the reference's change of layer 16. -/
import Derived.Test.YtjbhmeeebacnpaaPnRef
import Derived.Test.YtjbhmeeebacnpaaNtMem
import Derived.Deep.RegionHeld3
import Derived.Deep.DeepCutAuto
namespace Go.Proofs.Ytjbhmeeebacnpaa
open Go Go.RowKit Fl

/-- Block b holds a body. -/
def BodAt (w : World) (b : Nat) (q : BodD) : Prop := w.heap[b]? = some (.cells (BC q) 40 (0, 0))
theorem BodAt.new (w : World) (q : BodD) : BodAt (w.alloc (.cells (BC q) 40)) w.heap.size q := heap_alloc_new w _
theorem BodAt.keep {w w' : World} {b : Nat} {q : BodD} (h : BodAt w b q) (hb : Below w.heap.size w w') : BodAt w' b q := (hb.block b (block_lt h)).trans h
theorem BodAt.cell {w : World} {b : Nat} {q : BodD} (h : BodAt w b q) : w.cell? ⟨b, 0, none⟩ = some (.int .i64 q.cel) ∧ w.cell? ⟨b, 1, none⟩ = some (.int .i64 q.dst) ∧ w.cell? ⟨b, 2, none⟩ = some (.bool q.srv) ∧ w.cell? ⟨b, 3, none⟩ = some (.bool q.flt) := by
  unfold BodAt at h
  refine ⟨?_, ?_, ?_, ?_⟩ <;> rw [cell_of_row w b _ _ _ (0, 0) h] <;> rfl
theorem BodAt.frozen {w : World} {b : Nat} {q : BodD} (h : BodAt w b q) (i : Nat) : w.frozen? ⟨b, i, none⟩ = false := by
  unfold BodAt at h
  simp [World.frozen?, h]
theorem BodAt.put4 {w : World} {b : Nat} {g : BodD} (h : BodAt w b g) (f : BodD) : BodAt ((((w.setCell ⟨b, 0, none⟩ (.int .i64 f.cel)).setCell ⟨b, 1, none⟩ (.int .i64 f.dst)).setCell ⟨b, 2, none⟩ (.bool f.srv)).setCell ⟨b, 3, none⟩ (.bool f.flt)) b f := by
  unfold BodAt at h ⊢
  simp [World.setCell, Array.getElem?_modify, h]
theorem BodAt.far {w : World} {b X i : Nat} {q : BodD} {v : Value} (h : BodAt w b q) (hX : X ≠ b) : BodAt (w.setCell ⟨X, i, none⟩ v) b q := (Below.heap_setCell w ⟨X, i, none⟩ v b (fun e => hX e.symm)).trans h
theorem BodAt.far4 {w : World} {b X : Nat} {q : BodD} {v0 v1 v2 v3 : Value} (h : BodAt w b q) (hX : X ≠ b) : BodAt ((((w.setCell ⟨X, 0, none⟩ v0).setCell ⟨X, 1, none⟩ v1).setCell ⟨X, 2, none⟩ v2).setCell ⟨X, 3, none⟩ v3) b q := (((h.far hX).far hX).far hX).far hX
theorem results_bd {fn : Func} {p q : Tmp} (h : fn.results = #[.cell p 40, .tmp q]) (tmps : Array Value) (w : World) (g : Nat) (s : BodD) (u : Value)
    (hp : tmps.getD p undef = .pointer (some ⟨g, 0, none⟩)) (hg : BodAt w g s) (hu : tmps.getD q undef = u) :
    (results fn tmps).run Try.prog w = .ok (.tuple #[BV s, u]) w := by
  have hp' : tmps[p]?.getD undef = .pointer (some ⟨g, 0, none⟩) := by simpa using hp
  have hu' : tmps[q]?.getD undef = u := by simpa using hu
  simp [results, h, hp', hu', asAddr, run_loadVar_row w g 40 40 (BC s) (0, 0) _ hg Try.underlying40 rfl (by kernel_rfl)]
/-- Three new blocks: the last two hold bodies. -/
theorem three_bd (w : World) (o : Obj) (q r : BodD) : BodAt (((w.alloc o).alloc (.cells (BC q) 40)).alloc (.cells (BC r) 40)) (w.heap.size + 1 + 1) r ∧ BodAt (((w.alloc o).alloc (.cells (BC q) 40)).alloc (.cells (BC r) 40)) (w.heap.size + 1) q ∧ Below w.heap.size w (((w.alloc o).alloc (.cells (BC q) 40)).alloc (.cells (BC r) 40)) := by
  have h1 := BodAt.new ((w.alloc o).alloc (.cells (BC q) 40)) r
  have h2 := BodAt.new (w.alloc o) q
  rw [show ((w.alloc o).alloc (.cells (BC q) 40)).heap.size = w.heap.size + 1 + 1 by simp] at h1
  rw [show (w.alloc o).heap.size = w.heap.size + 1 by simp] at h2
  exact ⟨h1, h2.keep (below_newB _ _), ((below_newB w _).alloc (by simp) _).alloc (by simp; omega) _⟩
set_option maxRecDepth 100000 in
set_option maxHeartbeats 1500000 in
theorem refChange_c (Ab An As Ar : Option Addr) (cb cn cs cr : Nat) (N : NetD) (b : BodD) (a c : Int) (fol : Bool) (w : World)
    (hF : ∀ W, Below w.heap.size w W → Calls Try.prog 53 #[.agg #[.slice Ab N.blocks.length cb, .slice An N.next.length cn, .slice As N.spurs.length cs, .slice Ar N.robots.length cr, Iv N.queue, Iv N.aging, Iv N.detours, Iv N.patience], .int .i64 b.cel, .int .i64 c] W fun e w' => e = .returned (.bool fol) ∧ Below W.heap.size W w') :
    Calls Try.prog 32 #[.agg #[.slice Ab N.blocks.length cb, .slice An N.next.length cn, .slice As N.spurs.length cs, .slice Ar N.robots.length cr, Iv N.queue, Iv N.aging, Iv N.detours, Iv N.patience], BV b, .int .i64 a, .int .i64 c] w fun e w' => e = .returned (.tuple #[BV (chgB b a c), .bool (okB fol b a)]) ∧ Below w.heap.size w w' := by
  have HF := Lib.hid hF
  have HR := Lib.hid (fun W => refRest_c b W)
  have HZ := Lib.hid (three_bd w (.cells (netCells Ab An As Ar cb cn cs cr N) 29))
  clear hF
  by_cases h0 : a = 0
  · subst h0
    have HE : Hid (chgB b 0 c = ⟨c, -1, false, false⟩ ∧ okB fol b 0 = !(b.cel != -1)) := Lib.hid ⟨rfl, rfl⟩
    obtain ⟨cel, dst, srv, flt⟩ := b
    rw [HE.out.1, HE.out.2]
    clear HF HR HE
    go_enter Try.func32, Try.ntmps32
    go_wp2
    exact bodyPost_ret (results_bd rfl _ _ _ ⟨c, -1, false, false⟩ _ rfl (HZ.out ⟨cel, dst, srv, flt⟩ ⟨c, -1, false, false⟩).1 rfl) rfl ⟨rfl, (HZ.out ⟨cel, dst, srv, flt⟩ ⟨c, -1, false, false⟩).2.2⟩
  have n0 : (a == 0) = false := by rw [beq_eq_false_iff_ne]; exact h0
  by_cases h1 : a = 1
  · subst h1
    have HE : Hid (chgB b 1 c = ⟨b.cel, c, b.srv, b.flt⟩ ∧ okB fol b 1 = (restB b && fol)) := Lib.hid ⟨rfl, rfl⟩
    obtain ⟨cel, dst, srv, flt⟩ := b
    rw [HE.out.1, HE.out.2]
    generalize restB ⟨cel, dst, srv, flt⟩ = z at *
    clear HE n0 h0
    obtain ⟨g1, g2, g3⟩ := HZ.out ⟨cel, dst, srv, flt⟩ zeroB
    have HG : Hid (BodAt (((w.alloc (.cells (netCells Ab An As Ar cb cn cs cr N) 29)).alloc (.cells #[.int .i64 cel, .int .i64 dst, .bool srv, .bool flt] 40)).alloc (.cells #[.int .i64 0, .int .i64 0, .bool false, .bool false] 40)) (w.heap.size + 1 + 1) zeroB) := Lib.hid g1
    have HQ : Hid (BodAt (((w.alloc (.cells (netCells Ab An As Ar cb cn cs cr N) 29)).alloc (.cells #[.int .i64 cel, .int .i64 dst, .bool srv, .bool flt] 40)).alloc (.cells #[.int .i64 0, .int .i64 0, .bool false, .bool false] 40)) (w.heap.size + 1) ⟨cel, dst, srv, flt⟩) := Lib.hid g2
    have HB : Hid (Below w.heap.size w (((w.alloc (.cells (netCells Ab An As Ar cb cn cs cr N) 29)).alloc (.cells #[.int .i64 cel, .int .i64 dst, .bool srv, .bool flt] 40)).alloc (.cells #[.int .i64 0, .int .i64 0, .bool false, .bool false] 40))) := Lib.hid g3
    have HX : Hid ((((w.alloc (.cells (netCells Ab An As Ar cb cn cs cr N) 29)).alloc (.cells #[.int .i64 cel, .int .i64 dst, .bool srv, .bool flt] 40)).alloc (.cells #[.int .i64 0, .int .i64 0, .bool false, .bool false] 40)).heap[w.heap.size]? = some (.cells (netCells Ab An As Ar cb cn cs cr N) 29 (0, 0))) := Lib.hid ((Below.heap_alloc _ _ _ (by simp; omega)).trans ((Below.heap_alloc _ _ _ (by simp)).trans (heap_alloc_new w _)))
    have hsz : w.heap.size + 1 + 1 < (((w.alloc (.cells (netCells Ab An As Ar cb cn cs cr N) 29)).alloc (.cells #[.int .i64 cel, .int .i64 dst, .bool srv, .bool flt] 40)).alloc (.cells #[.int .i64 0, .int .i64 0, .bool false, .bool false] 40)).heap.size := by simp
    clear g1 g2 g3 HZ
    rcases z with _ | _
    · clear HF
      go_enter Try.func32, Try.ntmps32
      go_wp2_with fail
      generalize (((w.alloc (.cells (netCells Ab An As Ar cb cn cs cr N) 29)).alloc (.cells #[.int .i64 cel, .int .i64 dst, .bool srv, .bool flt] 40)).alloc (.cells #[.int .i64 0, .int .i64 0, .bool false, .bool false] 40)) = w3 at *
      refine (HR.out _).mono ?_
      rintro e w4 ⟨rfl, hb4⟩
      have HG4 := Lib.hid (HG.out.keep hb4)
      have HQ4 := Lib.hid (HQ.out.keep hb4)
      have HB4 := Lib.hid (HB.out.trans (hb4.mono HB.out.size))
      have hX4 := (hb4.block _ (block_lt HX.out)).trans HX.out
      have hz4 : w.heap.size + 1 + 1 < w4.heap.size := Nat.lt_of_lt_of_le hsz hb4.size
      obtain ⟨x0, x1, x2, x3, x4, x5, x6, x7⟩ := boxAt_of hX4
      obtain ⟨y0, y1, y2, y3⟩ := HQ4.out.cell
      obtain ⟨z0, z1, z2, z3⟩ := HG4.out.cell
      have fq := HQ4.out.frozen
      have fg := HG4.out.frozen
      clear hb4 HR HG HQ HB HX hsz hX4
      have HF1 := Lib.hid (((HG4.out.far (X := w.heap.size + 1) (i := 1) (v := (.int .i64 c)) (by omega)).put4 ⟨cel, c, srv, flt⟩))
      have HB9 := Lib.hid (below_put (i := 1) (v := (.int .i64 c)) HB4.out (show w.heap.size ≤ w.heap.size + 1 by omega))
      have HB8 : Hid (∀ p q r s : Value, Below w.heap.size w (((((w4.setCell ⟨w.heap.size + 1, 1, none⟩ (.int .i64 c)).setCell ⟨w.heap.size + 1 + 1, 0, none⟩ p).setCell ⟨w.heap.size + 1 + 1, 1, none⟩ q).setCell ⟨w.heap.size + 1 + 1, 2, none⟩ r).setCell ⟨w.heap.size + 1 + 1, 3, none⟩ s)) := Lib.hid (fun p q r s => below_put (below_put (below_put (below_put HB9.out (by omega)) (by omega)) (by omega)) (by omega))
      go_wp2
      exact bodyPost_ret (results_bd rfl _ _ _ ⟨cel, c, srv, flt⟩ _ rfl HF1.out rfl) rfl ⟨rfl, HB8.out _ _ _ _⟩
    · skip
      go_enter Try.func32, Try.ntmps32
      go_wp2_with fail
      generalize (((w.alloc (.cells (netCells Ab An As Ar cb cn cs cr N) 29)).alloc (.cells #[.int .i64 cel, .int .i64 dst, .bool srv, .bool flt] 40)).alloc (.cells #[.int .i64 0, .int .i64 0, .bool false, .bool false] 40)) = w3 at *
      refine (HR.out _).mono ?_
      rintro e w4 ⟨rfl, hb4⟩
      have HG4 := Lib.hid (HG.out.keep hb4)
      have HQ4 := Lib.hid (HQ.out.keep hb4)
      have HB4 := Lib.hid (HB.out.trans (hb4.mono HB.out.size))
      have hX4 := (hb4.block _ (block_lt HX.out)).trans HX.out
      have hz4 : w.heap.size + 1 + 1 < w4.heap.size := Nat.lt_of_lt_of_le hsz hb4.size
      obtain ⟨x0, x1, x2, x3, x4, x5, x6, x7⟩ := boxAt_of hX4
      obtain ⟨y0, y1, y2, y3⟩ := HQ4.out.cell
      obtain ⟨z0, z1, z2, z3⟩ := HG4.out.cell
      have fq := HQ4.out.frozen
      have fg := HG4.out.frozen
      clear hb4 HR HG HQ HB HX hsz hX4
      go_wp2_with fail
      refine (HF.out _ HB4.out).mono ?_
      rintro e w5 ⟨rfl, hb5⟩
      have HG5 := Lib.hid (HG4.out.keep hb5)
      have HQ5 := Lib.hid (HQ4.out.keep hb5)
      have HB5 := Lib.hid (HB4.out.trans (hb5.mono HB4.out.size))
      obtain ⟨y0, y1, y2, y3⟩ := HQ5.out.cell
      obtain ⟨z0, z1, z2, z3⟩ := HG5.out.cell
      have fq := HQ5.out.frozen
      have fg := HG5.out.frozen
      clear hb5 HF HG4 HQ4 HB4 x0 x1 x2 x3 x4 x5 x6 x7
      have HF1 := Lib.hid (((HG5.out.far (X := w.heap.size + 1) (i := 1) (v := (.int .i64 c)) (by omega)).put4 ⟨cel, c, srv, flt⟩))
      have HB9 := Lib.hid (below_put (i := 1) (v := (.int .i64 c)) HB5.out (show w.heap.size ≤ w.heap.size + 1 by omega))
      have HB8 : Hid (∀ p q r s : Value, Below w.heap.size w (((((w5.setCell ⟨w.heap.size + 1, 1, none⟩ (.int .i64 c)).setCell ⟨w.heap.size + 1 + 1, 0, none⟩ p).setCell ⟨w.heap.size + 1 + 1, 1, none⟩ q).setCell ⟨w.heap.size + 1 + 1, 2, none⟩ r).setCell ⟨w.heap.size + 1 + 1, 3, none⟩ s)) := Lib.hid (fun p q r s => below_put (below_put (below_put (below_put HB9.out (by omega)) (by omega)) (by omega)) (by omega))
      go_wp2
      exact bodyPost_ret (results_bd rfl _ _ _ ⟨cel, c, srv, flt⟩ _ rfl HF1.out rfl) rfl ⟨rfl, HB8.out _ _ _ _⟩
  have n1 : (a == 1) = false := by rw [beq_eq_false_iff_ne]; exact h1
  by_cases h2 : a = 2
  · subst h2
    have HE : Hid (chgB b 2 c = ⟨b.dst, -1, b.srv, b.flt⟩ ∧ okB fol b 2 = (b.cel != -1 && b.dst != -1 && !b.flt)) := Lib.hid ⟨rfl, rfl⟩
    obtain ⟨cel, dst, srv, flt⟩ := b
    rw [HE.out.1, HE.out.2]
    clear HF HR HE n0 n1 h0 h1
    obtain ⟨u1, hu1⟩ : ∃ u, (cel != -1) = u := ⟨_, rfl⟩
    obtain ⟨u2, hu2⟩ : ∃ u, (dst != -1) = u := ⟨_, rfl⟩
    rw [hu1, hu2]
    rcases u1 with _ | _
    · go_enter Try.func32, Try.ntmps32
      go_wp2
      exact bodyPost_ret (results_bd rfl _ _ _ ⟨dst, -1, srv, flt⟩ _ rfl (HZ.out ⟨dst, -1, srv, flt⟩ ⟨dst, -1, srv, flt⟩).1 rfl) rfl ⟨rfl, (HZ.out ⟨dst, -1, srv, flt⟩ ⟨dst, -1, srv, flt⟩).2.2⟩
    · rcases u2 with _ | _
      · go_enter Try.func32, Try.ntmps32
        go_wp2
        exact bodyPost_ret (results_bd rfl _ _ _ ⟨dst, -1, srv, flt⟩ _ rfl (HZ.out ⟨dst, -1, srv, flt⟩ ⟨dst, -1, srv, flt⟩).1 rfl) rfl ⟨rfl, (HZ.out ⟨dst, -1, srv, flt⟩ ⟨dst, -1, srv, flt⟩).2.2⟩
      · go_enter Try.func32, Try.ntmps32
        go_wp2
        exact bodyPost_ret (results_bd rfl _ _ _ ⟨dst, -1, srv, flt⟩ _ rfl (HZ.out ⟨dst, -1, srv, flt⟩ ⟨dst, -1, srv, flt⟩).1 rfl) rfl ⟨rfl, (HZ.out ⟨dst, -1, srv, flt⟩ ⟨dst, -1, srv, flt⟩).2.2⟩
  have n2 : (a == 2) = false := by rw [beq_eq_false_iff_ne]; exact h2
  by_cases h3 : a = 3
  · subst h3
    have HE : Hid (chgB b 3 c = ⟨b.cel, b.dst, true, b.flt⟩ ∧ okB fol b 3 = restB b) := Lib.hid ⟨rfl, rfl⟩
    obtain ⟨cel, dst, srv, flt⟩ := b
    rw [HE.out.1, HE.out.2]
    generalize restB ⟨cel, dst, srv, flt⟩ = z at *
    clear HE n0 n1 n2 h0 h1 h2 HF
    obtain ⟨g1, g2, g3⟩ := HZ.out ⟨cel, dst, srv, flt⟩ zeroB
    have HG : Hid (BodAt (((w.alloc (.cells (netCells Ab An As Ar cb cn cs cr N) 29)).alloc (.cells #[.int .i64 cel, .int .i64 dst, .bool srv, .bool flt] 40)).alloc (.cells #[.int .i64 0, .int .i64 0, .bool false, .bool false] 40)) (w.heap.size + 1 + 1) zeroB) := Lib.hid g1
    have HQ : Hid (BodAt (((w.alloc (.cells (netCells Ab An As Ar cb cn cs cr N) 29)).alloc (.cells #[.int .i64 cel, .int .i64 dst, .bool srv, .bool flt] 40)).alloc (.cells #[.int .i64 0, .int .i64 0, .bool false, .bool false] 40)) (w.heap.size + 1) ⟨cel, dst, srv, flt⟩) := Lib.hid g2
    have HB : Hid (Below w.heap.size w (((w.alloc (.cells (netCells Ab An As Ar cb cn cs cr N) 29)).alloc (.cells #[.int .i64 cel, .int .i64 dst, .bool srv, .bool flt] 40)).alloc (.cells #[.int .i64 0, .int .i64 0, .bool false, .bool false] 40))) := Lib.hid g3
    have HX : Hid ((((w.alloc (.cells (netCells Ab An As Ar cb cn cs cr N) 29)).alloc (.cells #[.int .i64 cel, .int .i64 dst, .bool srv, .bool flt] 40)).alloc (.cells #[.int .i64 0, .int .i64 0, .bool false, .bool false] 40)).heap[w.heap.size]? = some (.cells (netCells Ab An As Ar cb cn cs cr N) 29 (0, 0))) := Lib.hid ((Below.heap_alloc _ _ _ (by simp; omega)).trans ((Below.heap_alloc _ _ _ (by simp)).trans (heap_alloc_new w _)))
    have hsz : w.heap.size + 1 + 1 < (((w.alloc (.cells (netCells Ab An As Ar cb cn cs cr N) 29)).alloc (.cells #[.int .i64 cel, .int .i64 dst, .bool srv, .bool flt] 40)).alloc (.cells #[.int .i64 0, .int .i64 0, .bool false, .bool false] 40)).heap.size := by simp
    clear g1 g2 g3 HZ
    go_enter Try.func32, Try.ntmps32
    go_wp2_with fail
    generalize (((w.alloc (.cells (netCells Ab An As Ar cb cn cs cr N) 29)).alloc (.cells #[.int .i64 cel, .int .i64 dst, .bool srv, .bool flt] 40)).alloc (.cells #[.int .i64 0, .int .i64 0, .bool false, .bool false] 40)) = w3 at *
    refine (HR.out _).mono ?_
    rintro e w4 ⟨rfl, hb4⟩
    have HG4 := Lib.hid (HG.out.keep hb4)
    have HQ4 := Lib.hid (HQ.out.keep hb4)
    have HB4 := Lib.hid (HB.out.trans (hb4.mono HB.out.size))
    have hX4 := (hb4.block _ (block_lt HX.out)).trans HX.out
    have hz4 : w.heap.size + 1 + 1 < w4.heap.size := Nat.lt_of_lt_of_le hsz hb4.size
    obtain ⟨x0, x1, x2, x3, x4, x5, x6, x7⟩ := boxAt_of hX4
    obtain ⟨y0, y1, y2, y3⟩ := HQ4.out.cell
    obtain ⟨z0, z1, z2, z3⟩ := HG4.out.cell
    have fq := HQ4.out.frozen
    have fg := HG4.out.frozen
    clear hb4 HR HG HQ HB HX hsz hX4
    have HF1 := Lib.hid (((HG4.out.far (X := w.heap.size + 1) (i := 2) (v := (.bool true)) (by omega)).put4 ⟨cel, dst, true, flt⟩))
    have HB9 := Lib.hid (below_put (i := 2) (v := (.bool true)) HB4.out (show w.heap.size ≤ w.heap.size + 1 by omega))
    have HB8 : Hid (∀ p q r s : Value, Below w.heap.size w (((((w4.setCell ⟨w.heap.size + 1, 2, none⟩ (.bool true)).setCell ⟨w.heap.size + 1 + 1, 0, none⟩ p).setCell ⟨w.heap.size + 1 + 1, 1, none⟩ q).setCell ⟨w.heap.size + 1 + 1, 2, none⟩ r).setCell ⟨w.heap.size + 1 + 1, 3, none⟩ s)) := Lib.hid (fun p q r s => below_put (below_put (below_put (below_put HB9.out (by omega)) (by omega)) (by omega)) (by omega))
    go_wp2
    exact bodyPost_ret (results_bd rfl _ _ _ ⟨cel, dst, true, flt⟩ _ rfl HF1.out rfl) rfl ⟨rfl, HB8.out _ _ _ _⟩
  have n3 : (a == 3) = false := by rw [beq_eq_false_iff_ne]; exact h3
  by_cases h4 : a = 4
  · subst h4
    have HE : Hid (chgB b 4 c = ⟨b.cel, b.dst, false, b.flt⟩ ∧ okB fol b 4 = (b.cel != -1 && b.srv && !b.flt)) := Lib.hid ⟨rfl, rfl⟩
    obtain ⟨cel, dst, srv, flt⟩ := b
    rw [HE.out.1, HE.out.2]
    clear HF HR HE n0 n1 n2 n3 h0 h1 h2 h3
    obtain ⟨u1, hu1⟩ : ∃ u, (cel != -1) = u := ⟨_, rfl⟩
    rw [hu1]
    rcases u1 with _ | _
    · go_enter Try.func32, Try.ntmps32
      go_wp2
      exact bodyPost_ret (results_bd rfl _ _ _ ⟨cel, dst, false, flt⟩ _ rfl (HZ.out ⟨cel, dst, false, flt⟩ ⟨cel, dst, false, flt⟩).1 rfl) rfl ⟨rfl, (HZ.out ⟨cel, dst, false, flt⟩ ⟨cel, dst, false, flt⟩).2.2⟩
    · rcases srv with _ | _
      · go_enter Try.func32, Try.ntmps32
        go_wp2
        exact bodyPost_ret (results_bd rfl _ _ _ ⟨cel, dst, false, flt⟩ _ rfl (HZ.out ⟨cel, dst, false, flt⟩ ⟨cel, dst, false, flt⟩).1 rfl) rfl ⟨rfl, (HZ.out ⟨cel, dst, false, flt⟩ ⟨cel, dst, false, flt⟩).2.2⟩
      · go_enter Try.func32, Try.ntmps32
        go_wp2
        exact bodyPost_ret (results_bd rfl _ _ _ ⟨cel, dst, false, flt⟩ _ rfl (HZ.out ⟨cel, dst, false, flt⟩ ⟨cel, dst, false, flt⟩).1 rfl) rfl ⟨rfl, (HZ.out ⟨cel, dst, false, flt⟩ ⟨cel, dst, false, flt⟩).2.2⟩
  have n4 : (a == 4) = false := by rw [beq_eq_false_iff_ne]; exact h4
  by_cases h5 : a = 5
  · subst h5
    have HE : Hid (chgB b 5 c = ⟨b.cel, b.dst, b.srv, true⟩ ∧ okB fol b 5 = (b.cel != -1)) := Lib.hid ⟨rfl, rfl⟩
    obtain ⟨cel, dst, srv, flt⟩ := b
    rw [HE.out.1, HE.out.2]
    clear HF HR HE n0 n1 n2 n3 n4 h0 h1 h2 h3 h4
    go_enter Try.func32, Try.ntmps32
    go_wp2
    exact bodyPost_ret (results_bd rfl _ _ _ ⟨cel, dst, srv, true⟩ _ rfl (HZ.out ⟨cel, dst, srv, true⟩ ⟨cel, dst, srv, true⟩).1 rfl) rfl ⟨rfl, (HZ.out ⟨cel, dst, srv, true⟩ ⟨cel, dst, srv, true⟩).2.2⟩
  have n5 : (a == 5) = false := by rw [beq_eq_false_iff_ne]; exact h5
  have HE : Hid (chgB b a c = offB ∧ okB fol b a = (b.cel != -1 && (restB b || b.flt))) := Lib.hid (by
    unfold chgB okB floorB
    rw [if_neg h0, if_neg h1, if_neg h2, if_neg h3, if_neg h4, if_neg h5, if_neg h0, if_neg h1, if_neg h2, if_neg h3, if_neg h4, if_neg h5]
    exact ⟨rfl, rfl⟩)
  obtain ⟨cel, dst, srv, flt⟩ := b
  rw [HE.out.1, HE.out.2]
  generalize restB ⟨cel, dst, srv, flt⟩ = z at *
  clear HE h0 h1 h2 h3 h4 h5 HF
  obtain ⟨u1, hu1⟩ : ∃ u, (cel != -1) = u := ⟨_, rfl⟩
  rw [hu1]
  obtain ⟨g1, g2, g3⟩ := HZ.out ⟨cel, dst, srv, flt⟩ zeroB
  have HG : Hid (BodAt (((w.alloc (.cells (netCells Ab An As Ar cb cn cs cr N) 29)).alloc (.cells #[.int .i64 cel, .int .i64 dst, .bool srv, .bool flt] 40)).alloc (.cells #[.int .i64 0, .int .i64 0, .bool false, .bool false] 40)) (w.heap.size + 1 + 1) zeroB) := Lib.hid g1
  have HQ : Hid (BodAt (((w.alloc (.cells (netCells Ab An As Ar cb cn cs cr N) 29)).alloc (.cells #[.int .i64 cel, .int .i64 dst, .bool srv, .bool flt] 40)).alloc (.cells #[.int .i64 0, .int .i64 0, .bool false, .bool false] 40)) (w.heap.size + 1) ⟨cel, dst, srv, flt⟩) := Lib.hid g2
  have HB : Hid (Below w.heap.size w (((w.alloc (.cells (netCells Ab An As Ar cb cn cs cr N) 29)).alloc (.cells #[.int .i64 cel, .int .i64 dst, .bool srv, .bool flt] 40)).alloc (.cells #[.int .i64 0, .int .i64 0, .bool false, .bool false] 40))) := Lib.hid g3
  have HX : Hid ((((w.alloc (.cells (netCells Ab An As Ar cb cn cs cr N) 29)).alloc (.cells #[.int .i64 cel, .int .i64 dst, .bool srv, .bool flt] 40)).alloc (.cells #[.int .i64 0, .int .i64 0, .bool false, .bool false] 40)).heap[w.heap.size]? = some (.cells (netCells Ab An As Ar cb cn cs cr N) 29 (0, 0))) := Lib.hid ((Below.heap_alloc _ _ _ (by simp; omega)).trans ((Below.heap_alloc _ _ _ (by simp)).trans (heap_alloc_new w _)))
  have hsz : w.heap.size + 1 + 1 < (((w.alloc (.cells (netCells Ab An As Ar cb cn cs cr N) 29)).alloc (.cells #[.int .i64 cel, .int .i64 dst, .bool srv, .bool flt] 40)).alloc (.cells #[.int .i64 0, .int .i64 0, .bool false, .bool false] 40)).heap.size := by simp
  clear g1 g2 g3 HZ
  have HB8 : Hid (∀ W, Below w.heap.size w W → ∀ p q r s : Value, Below w.heap.size w ((((W.setCell ⟨w.heap.size + 1 + 1, 0, none⟩ p).setCell ⟨w.heap.size + 1 + 1, 1, none⟩ q).setCell ⟨w.heap.size + 1 + 1, 2, none⟩ r).setCell ⟨w.heap.size + 1 + 1, 3, none⟩ s)) := Lib.hid (fun W h p q r s => below_put (below_put (below_put (below_put h (by omega)) (by omega)) (by omega)) (by omega))
  have e5 : (a == 5) = false := n5
  rcases u1 with _ | _
  · clear HR
    go_enter Try.func32, Try.ntmps32
    go_wp2_with fail
    generalize (((w.alloc (.cells (netCells Ab An As Ar cb cn cs cr N) 29)).alloc (.cells #[.int .i64 cel, .int .i64 dst, .bool srv, .bool flt] 40)).alloc (.cells #[.int .i64 0, .int .i64 0, .bool false, .bool false] 40)) = w3 at *
    rename_i Q1 K1 hK1
    have HGd : Hid (BodAt w3.drew (w.heap.size + 1 + 1) zeroB) := Lib.hid HG.out
    have HQd : Hid (BodAt w3.drew (w.heap.size + 1) ⟨cel, dst, srv, flt⟩) := Lib.hid HQ.out
    have HBd : Hid (Below w.heap.size w w3.drew) := Lib.hid HB.out.drew
    obtain ⟨y0, y1, y2, y3⟩ := HQd.out.cell
    obtain ⟨z0, z1, z2, z3⟩ := HGd.out.cell
    have fq := HQd.out.frozen
    have fg := HGd.out.frozen
    obtain ⟨yy0, yy1, yy2, yy3⟩ := HQ.out.cell
    obtain ⟨zz0, zz1, zz2, zz3⟩ := HG.out.cell
    have fqq := HQ.out.frozen
    have fgg := HG.out.frozen
    clear HX hsz HG HQ HB
    refine wp_region_noPanic ?_
    refine wp_region_held_drew (S := fun W => W.cell? ⟨w.heap.size + 1, 0, none⟩ = some (.int .i64 cel) ∧ W.cell? ⟨w.heap.size + 1, 1, none⟩ = some (.int .i64 dst) ∧ W.cell? ⟨w.heap.size + 1, 2, none⟩ = some (.bool srv) ∧ W.cell? ⟨w.heap.size + 1, 3, none⟩ = some (.bool flt)) (by kernel_rfl) ⟨y0, y1, y2, y3⟩ (fun hHeld => ?_)
    refine wpAnyH_take (i := 0) (oi := { dst := some 86, op := Op.build 40 #[(0, Operand.const (Value.int IntKind.i64 (-1))), (1, Operand.const (Value.int IntKind.i64 (-1)))], type := 40, pos := "ref.go:49", after := #[], guard := none }) (v := ?v0) rfl (by kernel_rfl) (by kernel_rfl) (by kernel_rfl) (fun _ _ _ h => h) (Or.inl ⟨by rfl, ?hy0⟩) (by assumption) ?rest0
    case hy0 => ((intro w hSw; (try dsimp only at hSw); go_simp) <;> (with_reducible rfl))
    try simp only [Act.put, List.setIfInBounds_toArray, List.set_cons_zero, List.set_cons_succ]
    refine wpAnyH_take (i := 1) (oi := { dst := some 87, op := Op.move (Operand.tmp 10), type := 4, pos := "ref.go:49", after := #[], guard := none }) (v := ?v1) rfl (by kernel_rfl) (by kernel_rfl) (by kernel_rfl) (fun _ _ _ h => h) (Or.inl ⟨by rfl, ?hy1⟩) (by assumption) ?rest1
    case hy1 => ((intro w hSw; (try dsimp only at hSw); go_simp) <;> (with_reducible rfl))
    try simp only [Act.put, List.setIfInBounds_toArray, List.set_cons_zero, List.set_cons_succ]
    refine wpAnyH_take (i := 2) (oi := { dst := some 88, op := Op.move (Operand.tmp 87), type := 4, pos := "ref.go:49", after := #[{ on := 1, ground := Ground.data }], guard := none }) (v := ?v2) rfl (by kernel_rfl) (by kernel_rfl) (by kernel_rfl) (fun _ _ _ h => h) (Or.inl ⟨by rfl, ?hy2⟩) (by assumption) ?rest2
    case hy2 => ((intro w hSw; (try dsimp only at hSw); go_simp) <;> (with_reducible rfl))
    try simp only [Act.put, List.setIfInBounds_toArray, List.set_cons_zero, List.set_cons_succ]
    refine wpAnyH_take (i := 3) (oi := { dst := some 89, op := Op.load 40 (Operand.tmp 5), type := 40, pos := "ref.go:49", after := #[{ on := 2, ground := Ground.guard }], guard := some (2, true) }) (v := undef) rfl (by kernel_rfl) (by kernel_rfl) (by kernel_rfl) (fun _ _ _ h => h) (Or.inr ⟨by rfl, rfl⟩) (by assumption) ?_
    try simp only [Act.put, List.setIfInBounds_toArray, List.set_cons_zero, List.set_cons_succ]
    refine wpAnyH_take (i := 4) (oi := { dst := some 90, op := Op.call { callee := Callee.value (Operand.func 52), args := #[Operand.tmp 89], argTypes := #[40] }, type := 4, pos := "ref.go:49", after := #[{ on := 3, ground := Ground.data }, { on := 2, ground := Ground.chain }, { on := 2, ground := Ground.guard }], guard := some (2, true) }) (v := undef) rfl (by kernel_rfl) (by kernel_rfl) (by kernel_rfl) (fun _ _ _ h => h) (Or.inr ⟨by rfl, rfl⟩) (by assumption) ?_
    try simp only [Act.put, List.setIfInBounds_toArray, List.set_cons_zero, List.set_cons_succ]
    refine wpAnyH_take (i := 5) (oi := { dst := some 91, op := Op.move (Operand.tmp 90), type := 4, pos := "ref.go:49", after := #[{ on := 4, ground := Ground.data }, { on := 4, ground := Ground.chain }, { on := 2, ground := Ground.guard }], guard := some (2, true) }) (v := undef) rfl (by kernel_rfl) (by kernel_rfl) (by kernel_rfl) (fun _ _ _ h => h) (Or.inr ⟨by rfl, rfl⟩) (by assumption) ?_
    try simp only [Act.put, List.setIfInBounds_toArray, List.set_cons_zero, List.set_cons_succ]
    refine wpAnyH_take (i := 6) (oi := { dst := some 92, op := Op.fieldAddr 40 (Operand.tmp 5) 3, type := 0, pos := "ref.go:49", after := #[{ on := 5, ground := Ground.guard }, { on := 10, ground := Ground.gcOnly Departure.lateStores }], guard := some (5, false) }) (v := undef) rfl (by kernel_rfl) (by kernel_rfl) (by kernel_rfl) (fun _ _ _ h => h) (Or.inr ⟨by rfl, rfl⟩) (by assumption) ?_
    try simp only [Act.put, List.setIfInBounds_toArray, List.set_cons_zero, List.set_cons_succ]
    refine wpAnyH_take (i := 7) (oi := { dst := some 93, op := Op.load 4 (Operand.tmp 92), type := 4, pos := "ref.go:49", after := #[{ on := 6, ground := Ground.data }, { on := 5, ground := Ground.guard }, { on := 10, ground := Ground.gcOnly Departure.lateStores }], guard := some (5, false) }) (v := undef) rfl (by kernel_rfl) (by kernel_rfl) (by kernel_rfl) (fun _ _ _ h => h) (Or.inr ⟨by rfl, rfl⟩) (by assumption) ?_
    try simp only [Act.put, List.setIfInBounds_toArray, List.set_cons_zero, List.set_cons_succ]
    refine wpAnyH_take (i := 8) (oi := { dst := some 94, op := Op.pick (Operand.tmp 91) (Operand.const (Value.bool true)) (Operand.tmp 93), type := 4, pos := "ref.go:49", after := #[{ on := 5, ground := Ground.data }, { on := 7, ground := Ground.data }, { on := 2, ground := Ground.guard }, { on := 10, ground := Ground.gcOnly Departure.lateStores }], guard := some (2, true) }) (v := undef) rfl (by kernel_rfl) (by kernel_rfl) (by kernel_rfl) (fun _ _ _ h => h) (Or.inr ⟨by rfl, rfl⟩) (by assumption) ?_
    try simp only [Act.put, List.setIfInBounds_toArray, List.set_cons_zero, List.set_cons_succ]
    refine wpAnyH_take (i := 9) (oi := { dst := some 95, op := Op.pick (Operand.tmp 88) (Operand.tmp 94) (Operand.const (Value.bool false)), type := 4, pos := "ref.go:49", after := #[{ on := 2, ground := Ground.data }, { on := 8, ground := Ground.data }, { on := 10, ground := Ground.gcOnly Departure.lateStores }], guard := none }) (v := ?v3) rfl (by kernel_rfl) (by kernel_rfl) (by kernel_rfl) (fun _ _ _ h => h) (Or.inl ⟨by rfl, ?hy3⟩) (by assumption) ?rest3
    case hy3 => ((intro w hSw; (try dsimp only at hSw); go_simp) <;> (with_reducible rfl))
    try simp only [Act.put, List.setIfInBounds_toArray, List.set_cons_zero, List.set_cons_succ]
    refine wpAnyH_ready (rs := [10]) (by kernel_rfl) (by simp) ?_
    refine (AllReadyH.cons (o := { dst := none, op := Op.store 40 (Operand.tmp 8) (Operand.tmp 86), type := 0, pos := "ref.go:49", after := #[{ on := 0, ground := Ground.data }, { on := 5, ground := Ground.chain }, { on := 0, ground := Ground.phase }, { on := 1, ground := Ground.textOnly Departure.lateStores }, { on := 2, ground := Ground.textOnly Departure.lateStores }, { on := 3, ground := Ground.textOnly Departure.lateStores }, { on := 4, ground := Ground.textOnly Departure.lateStoresUnsure }, { on := 5, ground := Ground.textOnly Departure.lateStores }, { on := 6, ground := Ground.textOnly Departure.lateStores }, { on := 7, ground := Ground.textOnly Departure.lateStores }, { on := 8, ground := Ground.textOnly Departure.lateStores }, { on := 9, ground := Ground.textOnly Departure.lateStores }], guard := none }) rfl (fun K hK => ?_) AllReadyH.nil)
    go_simp
    refine hK.out _ _ ?_ (fun hHeld => ?_)
    · (try dsimp only)
      first | with_reducible exact ⟨y0, y1, y2, y3⟩ | exact (HQd.out.far4 (by omega)).cell
    clear hK K
    try simp only [Act.put, List.setIfInBounds_toArray, List.set_cons_zero, List.set_cons_succ]
    refine wpAnyH_take (i := 11) (oi := { dst := some 9, op := Op.assign (Operand.tmp 95), type := 4, pos := "ref.go:49", after := #[{ on := 9, ground := Ground.data }, { on := 10, ground := Ground.chain }, { on := 0, ground := Ground.phase }, { on := 1, ground := Ground.phase }, { on := 2, ground := Ground.phase }, { on := 3, ground := Ground.phase }, { on := 4, ground := Ground.phase }, { on := 5, ground := Ground.phase }, { on := 6, ground := Ground.phase }, { on := 7, ground := Ground.phase }, { on := 8, ground := Ground.phase }, { on := 9, ground := Ground.phase }, { on := 10, ground := Ground.phase }], guard := none }) (v := ?v4) rfl (by kernel_rfl) (by kernel_rfl) (by kernel_rfl) (fun _ _ _ h => h) (Or.inl ⟨by rfl, ?hy4⟩) (by assumption) ?rest4
    case hy4 => ((intro w hSw; (try dsimp only at hSw); go_simp) <;> (with_reducible rfl))
    try simp only [Act.put, List.setIfInBounds_toArray, List.set_cons_zero, List.set_cons_succ]
    refine wpAnyH_done (by kernel_rfl) ?_ _
    refine NoPanic.normal ?_
    show K1 _ _
    refine hK1 _ _ ?_
    go_wp2
    exact bodyPost_ret (results_bd rfl _ _ _ offB _ rfl (HGd.out.put4 offB) rfl) rfl ⟨rfl, HB8.out _ HBd.out _ _ _ _⟩
  · rcases z with _ | _
    · skip
      go_enter Try.func32, Try.ntmps32
      go_wp2_with fail
      generalize (((w.alloc (.cells (netCells Ab An As Ar cb cn cs cr N) 29)).alloc (.cells #[.int .i64 cel, .int .i64 dst, .bool srv, .bool flt] 40)).alloc (.cells #[.int .i64 0, .int .i64 0, .bool false, .bool false] 40)) = w3 at *
      rename_i Q1 K1 hK1
      have HGd : Hid (BodAt w3.drew (w.heap.size + 1 + 1) zeroB) := Lib.hid HG.out
      have HQd : Hid (BodAt w3.drew (w.heap.size + 1) ⟨cel, dst, srv, flt⟩) := Lib.hid HQ.out
      have HBd : Hid (Below w.heap.size w w3.drew) := Lib.hid HB.out.drew
      obtain ⟨y0, y1, y2, y3⟩ := HQd.out.cell
      obtain ⟨z0, z1, z2, z3⟩ := HGd.out.cell
      have fq := HQd.out.frozen
      have fg := HGd.out.frozen
      obtain ⟨yy0, yy1, yy2, yy3⟩ := HQ.out.cell
      obtain ⟨zz0, zz1, zz2, zz3⟩ := HG.out.cell
      have fqq := HQ.out.frozen
      have fgg := HG.out.frozen
      clear HX hsz HG HQ HB
      refine wp_region_noPanic ?_
      refine wp_region_held_drew (S := fun W => W.cell? ⟨w.heap.size + 1, 0, none⟩ = some (.int .i64 cel) ∧ W.cell? ⟨w.heap.size + 1, 1, none⟩ = some (.int .i64 dst) ∧ W.cell? ⟨w.heap.size + 1, 2, none⟩ = some (.bool srv) ∧ W.cell? ⟨w.heap.size + 1, 3, none⟩ = some (.bool flt)) (by kernel_rfl) ⟨y0, y1, y2, y3⟩ (fun hHeld => ?_)
      refine wpAnyH_take (i := 0) (oi := { dst := some 86, op := Op.build 40 #[(0, Operand.const (Value.int IntKind.i64 (-1))), (1, Operand.const (Value.int IntKind.i64 (-1)))], type := 40, pos := "ref.go:49", after := #[], guard := none }) (v := ?v5) rfl (by kernel_rfl) (by kernel_rfl) (by kernel_rfl) (fun _ _ _ h => h) (Or.inl ⟨by rfl, ?hy5⟩) (by assumption) ?rest5
      case hy5 => ((intro w hSw; (try dsimp only at hSw); go_simp) <;> (with_reducible rfl))
      try simp only [Act.put, List.setIfInBounds_toArray, List.set_cons_zero, List.set_cons_succ]
      refine wpAnyH_take (i := 1) (oi := { dst := some 87, op := Op.move (Operand.tmp 10), type := 4, pos := "ref.go:49", after := #[], guard := none }) (v := ?v6) rfl (by kernel_rfl) (by kernel_rfl) (by kernel_rfl) (fun _ _ _ h => h) (Or.inl ⟨by rfl, ?hy6⟩) (by assumption) ?rest6
      case hy6 => ((intro w hSw; (try dsimp only at hSw); go_simp) <;> (with_reducible rfl))
      try simp only [Act.put, List.setIfInBounds_toArray, List.set_cons_zero, List.set_cons_succ]
      refine wpAnyH_take (i := 2) (oi := { dst := some 88, op := Op.move (Operand.tmp 87), type := 4, pos := "ref.go:49", after := #[{ on := 1, ground := Ground.data }], guard := none }) (v := ?v7) rfl (by kernel_rfl) (by kernel_rfl) (by kernel_rfl) (fun _ _ _ h => h) (Or.inl ⟨by rfl, ?hy7⟩) (by assumption) ?rest7
      case hy7 => ((intro w hSw; (try dsimp only at hSw); go_simp) <;> (with_reducible rfl))
      try simp only [Act.put, List.setIfInBounds_toArray, List.set_cons_zero, List.set_cons_succ]
      refine wpAnyH_take (i := 3) (oi := { dst := some 89, op := Op.load 40 (Operand.tmp 5), type := 40, pos := "ref.go:49", after := #[{ on := 2, ground := Ground.guard }], guard := some (2, true) }) (v := ?v8) rfl (by kernel_rfl) (by kernel_rfl) (by kernel_rfl) (fun _ _ _ h => h) (Or.inl ⟨by rfl, ?hy8⟩) (by assumption) ?rest8
      case hy8 => ((intro w hSw; (try dsimp only at hSw); go_simp) <;> (with_reducible rfl))
      try simp only [Act.put, List.setIfInBounds_toArray, List.set_cons_zero, List.set_cons_succ]
      refine wpAnyH_ready (rs := [4]) (by kernel_rfl) (by simp) ?_
      refine (AllReadyH.cons (o := { dst := some 90, op := Op.call { callee := Callee.value (Operand.func 52), args := #[Operand.tmp 89], argTypes := #[40] }, type := 4, pos := "ref.go:49", after := #[{ on := 3, ground := Ground.data }, { on := 2, ground := Ground.chain }, { on := 2, ground := Ground.guard }], guard := some (2, true) }) rfl (fun K hK => ?_) AllReadyH.nil)
      go_simp
      (go_at_call 52; refine (HR.out _).mono ?_; rintro e w4 ⟨rfl, hb4⟩; have HG4 := Lib.hid (HGd.out.keep hb4); have HQ4 := Lib.hid (HQd.out.keep hb4); have HB4 := Lib.hid (HBd.out.trans (hb4.mono HBd.out.size)); obtain ⟨y0, y1, y2, y3⟩ := HQ4.out.cell; obtain ⟨z0, z1, z2, z3⟩ := HG4.out.cell; have fq := HQ4.out.frozen; have fg := HG4.out.frozen; clear hb4)
      go_wp2_with fail
      refine hK.out _ _ ?_ (fun hHeld => ?_)
      · (try dsimp only)
        first | with_reducible exact ⟨y0, y1, y2, y3⟩ | exact (HQ4.out.far4 (by omega)).cell
      clear hK K
      try simp only [Act.put, List.setIfInBounds_toArray, List.set_cons_zero, List.set_cons_succ]
      refine wpAnyH_take (i := 5) (oi := { dst := some 91, op := Op.move (Operand.tmp 90), type := 4, pos := "ref.go:49", after := #[{ on := 4, ground := Ground.data }, { on := 4, ground := Ground.chain }, { on := 2, ground := Ground.guard }], guard := some (2, true) }) (v := ?v9) rfl (by kernel_rfl) (by kernel_rfl) (by kernel_rfl) (fun _ _ _ h => h) (Or.inl ⟨by rfl, ?hy9⟩) (by assumption) ?rest9
      case hy9 => ((intro w hSw; (try dsimp only at hSw); go_simp) <;> (with_reducible rfl))
      try simp only [Act.put, List.setIfInBounds_toArray, List.set_cons_zero, List.set_cons_succ]
      refine wpAnyH_take (i := 6) (oi := { dst := some 92, op := Op.fieldAddr 40 (Operand.tmp 5) 3, type := 0, pos := "ref.go:49", after := #[{ on := 5, ground := Ground.guard }, { on := 10, ground := Ground.gcOnly Departure.lateStores }], guard := some (5, false) }) (v := ?v10) rfl (by kernel_rfl) (by kernel_rfl) (by kernel_rfl) (fun _ _ _ h => h) (Or.inl ⟨by rfl, ?hy10⟩) (by assumption) ?rest10
      case hy10 => ((intro w hSw; (try dsimp only at hSw); go_simp) <;> (with_reducible rfl))
      try simp only [Act.put, List.setIfInBounds_toArray, List.set_cons_zero, List.set_cons_succ]
      refine wpAnyH_take (i := 7) (oi := { dst := some 93, op := Op.load 4 (Operand.tmp 92), type := 4, pos := "ref.go:49", after := #[{ on := 6, ground := Ground.data }, { on := 5, ground := Ground.guard }, { on := 10, ground := Ground.gcOnly Departure.lateStores }], guard := some (5, false) }) (v := ?v11) rfl (by kernel_rfl) (by kernel_rfl) (by kernel_rfl) (fun _ _ _ h => h) (Or.inl ⟨by rfl, ?hy11⟩) (by assumption) ?rest11
      case hy11 => ((intro w hSw; (try dsimp only at hSw); go_simp) <;> (with_reducible rfl))
      try simp only [Act.put, List.setIfInBounds_toArray, List.set_cons_zero, List.set_cons_succ]
      refine wpAnyH_take (i := 8) (oi := { dst := some 94, op := Op.pick (Operand.tmp 91) (Operand.const (Value.bool true)) (Operand.tmp 93), type := 4, pos := "ref.go:49", after := #[{ on := 5, ground := Ground.data }, { on := 7, ground := Ground.data }, { on := 2, ground := Ground.guard }, { on := 10, ground := Ground.gcOnly Departure.lateStores }], guard := some (2, true) }) (v := ?v12) rfl (by kernel_rfl) (by kernel_rfl) (by kernel_rfl) (fun _ _ _ h => h) (Or.inl ⟨by rfl, ?hy12⟩) (by assumption) ?rest12
      case hy12 => ((intro w hSw; (try dsimp only at hSw); go_simp) <;> (with_reducible rfl))
      try simp only [Act.put, List.setIfInBounds_toArray, List.set_cons_zero, List.set_cons_succ]
      refine wpAnyH_take (i := 9) (oi := { dst := some 95, op := Op.pick (Operand.tmp 88) (Operand.tmp 94) (Operand.const (Value.bool false)), type := 4, pos := "ref.go:49", after := #[{ on := 2, ground := Ground.data }, { on := 8, ground := Ground.data }, { on := 10, ground := Ground.gcOnly Departure.lateStores }], guard := none }) (v := ?v13) rfl (by kernel_rfl) (by kernel_rfl) (by kernel_rfl) (fun _ _ _ h => h) (Or.inl ⟨by rfl, ?hy13⟩) (by assumption) ?rest13
      case hy13 => ((intro w hSw; (try dsimp only at hSw); go_simp) <;> (with_reducible rfl))
      try simp only [Act.put, List.setIfInBounds_toArray, List.set_cons_zero, List.set_cons_succ]
      refine wpAnyH_ready (rs := [10]) (by kernel_rfl) (by simp) ?_
      refine (AllReadyH.cons (o := { dst := none, op := Op.store 40 (Operand.tmp 8) (Operand.tmp 86), type := 0, pos := "ref.go:49", after := #[{ on := 0, ground := Ground.data }, { on := 5, ground := Ground.chain }, { on := 0, ground := Ground.phase }, { on := 1, ground := Ground.textOnly Departure.lateStores }, { on := 2, ground := Ground.textOnly Departure.lateStores }, { on := 3, ground := Ground.textOnly Departure.lateStores }, { on := 4, ground := Ground.textOnly Departure.lateStoresUnsure }, { on := 5, ground := Ground.textOnly Departure.lateStores }, { on := 6, ground := Ground.textOnly Departure.lateStores }, { on := 7, ground := Ground.textOnly Departure.lateStores }, { on := 8, ground := Ground.textOnly Departure.lateStores }, { on := 9, ground := Ground.textOnly Departure.lateStores }], guard := none }) rfl (fun K hK => ?_) AllReadyH.nil)
      go_simp
      refine hK.out _ _ ?_ (fun hHeld => ?_)
      · (try dsimp only)
        first | with_reducible exact ⟨y0, y1, y2, y3⟩ | exact (HQ4.out.far4 (by omega)).cell
      clear hK K
      try simp only [Act.put, List.setIfInBounds_toArray, List.set_cons_zero, List.set_cons_succ]
      refine wpAnyH_take (i := 11) (oi := { dst := some 9, op := Op.assign (Operand.tmp 95), type := 4, pos := "ref.go:49", after := #[{ on := 9, ground := Ground.data }, { on := 10, ground := Ground.chain }, { on := 0, ground := Ground.phase }, { on := 1, ground := Ground.phase }, { on := 2, ground := Ground.phase }, { on := 3, ground := Ground.phase }, { on := 4, ground := Ground.phase }, { on := 5, ground := Ground.phase }, { on := 6, ground := Ground.phase }, { on := 7, ground := Ground.phase }, { on := 8, ground := Ground.phase }, { on := 9, ground := Ground.phase }, { on := 10, ground := Ground.phase }], guard := none }) (v := ?v14) rfl (by kernel_rfl) (by kernel_rfl) (by kernel_rfl) (fun _ _ _ h => h) (Or.inl ⟨by rfl, ?hy14⟩) (by assumption) ?rest14
      case hy14 => ((intro w hSw; (try dsimp only at hSw); go_simp) <;> (with_reducible rfl))
      try simp only [Act.put, List.setIfInBounds_toArray, List.set_cons_zero, List.set_cons_succ]
      refine wpAnyH_done (by kernel_rfl) ?_ _
      refine NoPanic.normal ?_
      show K1 _ _
      refine hK1 _ _ ?_
      go_wp2
      exact bodyPost_ret (results_bd rfl _ _ _ offB _ rfl (HG4.out.put4 offB) rfl) rfl ⟨rfl, HB8.out _ HB4.out _ _ _ _⟩
    · skip
      go_enter Try.func32, Try.ntmps32
      go_wp2_with fail
      generalize (((w.alloc (.cells (netCells Ab An As Ar cb cn cs cr N) 29)).alloc (.cells #[.int .i64 cel, .int .i64 dst, .bool srv, .bool flt] 40)).alloc (.cells #[.int .i64 0, .int .i64 0, .bool false, .bool false] 40)) = w3 at *
      rename_i Q1 K1 hK1
      have HGd : Hid (BodAt w3.drew (w.heap.size + 1 + 1) zeroB) := Lib.hid HG.out
      have HQd : Hid (BodAt w3.drew (w.heap.size + 1) ⟨cel, dst, srv, flt⟩) := Lib.hid HQ.out
      have HBd : Hid (Below w.heap.size w w3.drew) := Lib.hid HB.out.drew
      obtain ⟨y0, y1, y2, y3⟩ := HQd.out.cell
      obtain ⟨z0, z1, z2, z3⟩ := HGd.out.cell
      have fq := HQd.out.frozen
      have fg := HGd.out.frozen
      obtain ⟨yy0, yy1, yy2, yy3⟩ := HQ.out.cell
      obtain ⟨zz0, zz1, zz2, zz3⟩ := HG.out.cell
      have fqq := HQ.out.frozen
      have fgg := HG.out.frozen
      clear HX hsz HG HQ HB
      refine wp_region_noPanic ?_
      refine wp_region_held_drew (S := fun W => W.cell? ⟨w.heap.size + 1, 0, none⟩ = some (.int .i64 cel) ∧ W.cell? ⟨w.heap.size + 1, 1, none⟩ = some (.int .i64 dst) ∧ W.cell? ⟨w.heap.size + 1, 2, none⟩ = some (.bool srv) ∧ W.cell? ⟨w.heap.size + 1, 3, none⟩ = some (.bool flt)) (by kernel_rfl) ⟨y0, y1, y2, y3⟩ (fun hHeld => ?_)
      refine wpAnyH_take (i := 0) (oi := { dst := some 86, op := Op.build 40 #[(0, Operand.const (Value.int IntKind.i64 (-1))), (1, Operand.const (Value.int IntKind.i64 (-1)))], type := 40, pos := "ref.go:49", after := #[], guard := none }) (v := ?v15) rfl (by kernel_rfl) (by kernel_rfl) (by kernel_rfl) (fun _ _ _ h => h) (Or.inl ⟨by rfl, ?hy15⟩) (by assumption) ?rest15
      case hy15 => ((intro w hSw; (try dsimp only at hSw); go_simp) <;> (with_reducible rfl))
      try simp only [Act.put, List.setIfInBounds_toArray, List.set_cons_zero, List.set_cons_succ]
      refine wpAnyH_take (i := 1) (oi := { dst := some 87, op := Op.move (Operand.tmp 10), type := 4, pos := "ref.go:49", after := #[], guard := none }) (v := ?v16) rfl (by kernel_rfl) (by kernel_rfl) (by kernel_rfl) (fun _ _ _ h => h) (Or.inl ⟨by rfl, ?hy16⟩) (by assumption) ?rest16
      case hy16 => ((intro w hSw; (try dsimp only at hSw); go_simp) <;> (with_reducible rfl))
      try simp only [Act.put, List.setIfInBounds_toArray, List.set_cons_zero, List.set_cons_succ]
      refine wpAnyH_take (i := 2) (oi := { dst := some 88, op := Op.move (Operand.tmp 87), type := 4, pos := "ref.go:49", after := #[{ on := 1, ground := Ground.data }], guard := none }) (v := ?v17) rfl (by kernel_rfl) (by kernel_rfl) (by kernel_rfl) (fun _ _ _ h => h) (Or.inl ⟨by rfl, ?hy17⟩) (by assumption) ?rest17
      case hy17 => ((intro w hSw; (try dsimp only at hSw); go_simp) <;> (with_reducible rfl))
      try simp only [Act.put, List.setIfInBounds_toArray, List.set_cons_zero, List.set_cons_succ]
      refine wpAnyH_take (i := 3) (oi := { dst := some 89, op := Op.load 40 (Operand.tmp 5), type := 40, pos := "ref.go:49", after := #[{ on := 2, ground := Ground.guard }], guard := some (2, true) }) (v := ?v18) rfl (by kernel_rfl) (by kernel_rfl) (by kernel_rfl) (fun _ _ _ h => h) (Or.inl ⟨by rfl, ?hy18⟩) (by assumption) ?rest18
      case hy18 => ((intro w hSw; (try dsimp only at hSw); go_simp) <;> (with_reducible rfl))
      try simp only [Act.put, List.setIfInBounds_toArray, List.set_cons_zero, List.set_cons_succ]
      refine wpAnyH_ready (rs := [4]) (by kernel_rfl) (by simp) ?_
      refine (AllReadyH.cons (o := { dst := some 90, op := Op.call { callee := Callee.value (Operand.func 52), args := #[Operand.tmp 89], argTypes := #[40] }, type := 4, pos := "ref.go:49", after := #[{ on := 3, ground := Ground.data }, { on := 2, ground := Ground.chain }, { on := 2, ground := Ground.guard }], guard := some (2, true) }) rfl (fun K hK => ?_) AllReadyH.nil)
      go_simp
      (go_at_call 52; refine (HR.out _).mono ?_; rintro e w4 ⟨rfl, hb4⟩; have HG4 := Lib.hid (HGd.out.keep hb4); have HQ4 := Lib.hid (HQd.out.keep hb4); have HB4 := Lib.hid (HBd.out.trans (hb4.mono HBd.out.size)); obtain ⟨y0, y1, y2, y3⟩ := HQ4.out.cell; obtain ⟨z0, z1, z2, z3⟩ := HG4.out.cell; have fq := HQ4.out.frozen; have fg := HG4.out.frozen; clear hb4)
      go_wp2_with fail
      refine hK.out _ _ ?_ (fun hHeld => ?_)
      · (try dsimp only)
        first | with_reducible exact ⟨y0, y1, y2, y3⟩ | exact (HQ4.out.far4 (by omega)).cell
      clear hK K
      try simp only [Act.put, List.setIfInBounds_toArray, List.set_cons_zero, List.set_cons_succ]
      refine wpAnyH_take (i := 5) (oi := { dst := some 91, op := Op.move (Operand.tmp 90), type := 4, pos := "ref.go:49", after := #[{ on := 4, ground := Ground.data }, { on := 4, ground := Ground.chain }, { on := 2, ground := Ground.guard }], guard := some (2, true) }) (v := ?v19) rfl (by kernel_rfl) (by kernel_rfl) (by kernel_rfl) (fun _ _ _ h => h) (Or.inl ⟨by rfl, ?hy19⟩) (by assumption) ?rest19
      case hy19 => ((intro w hSw; (try dsimp only at hSw); go_simp) <;> (with_reducible rfl))
      try simp only [Act.put, List.setIfInBounds_toArray, List.set_cons_zero, List.set_cons_succ]
      refine wpAnyH_take (i := 6) (oi := { dst := some 92, op := Op.fieldAddr 40 (Operand.tmp 5) 3, type := 0, pos := "ref.go:49", after := #[{ on := 5, ground := Ground.guard }, { on := 10, ground := Ground.gcOnly Departure.lateStores }], guard := some (5, false) }) (v := undef) rfl (by kernel_rfl) (by kernel_rfl) (by kernel_rfl) (fun _ _ _ h => h) (Or.inr ⟨by rfl, rfl⟩) (by assumption) ?_
      try simp only [Act.put, List.setIfInBounds_toArray, List.set_cons_zero, List.set_cons_succ]
      refine wpAnyH_take (i := 7) (oi := { dst := some 93, op := Op.load 4 (Operand.tmp 92), type := 4, pos := "ref.go:49", after := #[{ on := 6, ground := Ground.data }, { on := 5, ground := Ground.guard }, { on := 10, ground := Ground.gcOnly Departure.lateStores }], guard := some (5, false) }) (v := undef) rfl (by kernel_rfl) (by kernel_rfl) (by kernel_rfl) (fun _ _ _ h => h) (Or.inr ⟨by rfl, rfl⟩) (by assumption) ?_
      try simp only [Act.put, List.setIfInBounds_toArray, List.set_cons_zero, List.set_cons_succ]
      refine wpAnyH_take (i := 8) (oi := { dst := some 94, op := Op.pick (Operand.tmp 91) (Operand.const (Value.bool true)) (Operand.tmp 93), type := 4, pos := "ref.go:49", after := #[{ on := 5, ground := Ground.data }, { on := 7, ground := Ground.data }, { on := 2, ground := Ground.guard }, { on := 10, ground := Ground.gcOnly Departure.lateStores }], guard := some (2, true) }) (v := ?v20) rfl (by kernel_rfl) (by kernel_rfl) (by kernel_rfl) (fun _ _ _ h => h) (Or.inl ⟨by rfl, ?hy20⟩) (by assumption) ?rest20
      case hy20 => ((intro w hSw; (try dsimp only at hSw); go_simp) <;> (with_reducible rfl))
      try simp only [Act.put, List.setIfInBounds_toArray, List.set_cons_zero, List.set_cons_succ]
      refine wpAnyH_take (i := 9) (oi := { dst := some 95, op := Op.pick (Operand.tmp 88) (Operand.tmp 94) (Operand.const (Value.bool false)), type := 4, pos := "ref.go:49", after := #[{ on := 2, ground := Ground.data }, { on := 8, ground := Ground.data }, { on := 10, ground := Ground.gcOnly Departure.lateStores }], guard := none }) (v := ?v21) rfl (by kernel_rfl) (by kernel_rfl) (by kernel_rfl) (fun _ _ _ h => h) (Or.inl ⟨by rfl, ?hy21⟩) (by assumption) ?rest21
      case hy21 => ((intro w hSw; (try dsimp only at hSw); go_simp) <;> (with_reducible rfl))
      try simp only [Act.put, List.setIfInBounds_toArray, List.set_cons_zero, List.set_cons_succ]
      refine wpAnyH_ready (rs := [10]) (by kernel_rfl) (by simp) ?_
      refine (AllReadyH.cons (o := { dst := none, op := Op.store 40 (Operand.tmp 8) (Operand.tmp 86), type := 0, pos := "ref.go:49", after := #[{ on := 0, ground := Ground.data }, { on := 5, ground := Ground.chain }, { on := 0, ground := Ground.phase }, { on := 1, ground := Ground.textOnly Departure.lateStores }, { on := 2, ground := Ground.textOnly Departure.lateStores }, { on := 3, ground := Ground.textOnly Departure.lateStores }, { on := 4, ground := Ground.textOnly Departure.lateStoresUnsure }, { on := 5, ground := Ground.textOnly Departure.lateStores }, { on := 6, ground := Ground.textOnly Departure.lateStores }, { on := 7, ground := Ground.textOnly Departure.lateStores }, { on := 8, ground := Ground.textOnly Departure.lateStores }, { on := 9, ground := Ground.textOnly Departure.lateStores }], guard := none }) rfl (fun K hK => ?_) AllReadyH.nil)
      go_simp
      refine hK.out _ _ ?_ (fun hHeld => ?_)
      · (try dsimp only)
        first | with_reducible exact ⟨y0, y1, y2, y3⟩ | exact (HQ4.out.far4 (by omega)).cell
      clear hK K
      try simp only [Act.put, List.setIfInBounds_toArray, List.set_cons_zero, List.set_cons_succ]
      refine wpAnyH_take (i := 11) (oi := { dst := some 9, op := Op.assign (Operand.tmp 95), type := 4, pos := "ref.go:49", after := #[{ on := 9, ground := Ground.data }, { on := 10, ground := Ground.chain }, { on := 0, ground := Ground.phase }, { on := 1, ground := Ground.phase }, { on := 2, ground := Ground.phase }, { on := 3, ground := Ground.phase }, { on := 4, ground := Ground.phase }, { on := 5, ground := Ground.phase }, { on := 6, ground := Ground.phase }, { on := 7, ground := Ground.phase }, { on := 8, ground := Ground.phase }, { on := 9, ground := Ground.phase }, { on := 10, ground := Ground.phase }], guard := none }) (v := ?v22) rfl (by kernel_rfl) (by kernel_rfl) (by kernel_rfl) (fun _ _ _ h => h) (Or.inl ⟨by rfl, ?hy22⟩) (by assumption) ?rest22
      case hy22 => ((intro w hSw; (try dsimp only at hSw); go_simp) <;> (with_reducible rfl))
      try simp only [Act.put, List.setIfInBounds_toArray, List.set_cons_zero, List.set_cons_succ]
      refine wpAnyH_done (by kernel_rfl) ?_ _
      refine NoPanic.normal ?_
      show K1 _ _
      refine hK1 _ _ ?_
      go_wp2
      exact bodyPost_ret (results_bd rfl _ _ _ offB _ rfl (HG4.out.put4 offB) rfl) rfl ⟨rfl, HB8.out _ HB4.out _ _ _ _⟩
end Go.Proofs.Ytjbhmeeebacnpaa
