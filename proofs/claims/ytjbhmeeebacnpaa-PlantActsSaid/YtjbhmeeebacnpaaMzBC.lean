/- Joined texts. -/
import Derived.Test.YtjbhmeeebacnpaaMzAD
import Derived.Test.YtjbhmeeebacnpaaMzAG
import Derived.Test.YtjbhmeeebacnpaaMzAS
import Derived.Test.YtjbhmeeebacnpaaMzAR
import Derived.Test.YtjbhmeeebacnpaaMzAT
import Derived.Test.YtjbhmeeebacnpaaMzAB
import Derived.Deep.RegionHeld3
import Derived.Deep.DeepCutAuto
namespace Go.Proofs.Ytjbhmeeebacnpaa
open Go Go.RowKit Fl

section
variable {w wr w' : World} {B gt T G0 base top : Nat} {N : NetD} {Ab An As Ar : Option Addr} {cb cn cs cr : Nat}
theorem NM.rebase (h : NM w B gt T G0 base top N Ab An As Ar cb cn cs cr wr) {T' : Nat} (ht : TapeOk w' B gt T') (hz : wr.heap.size ≤ w'.heap.size) (hb : ∀ k, base ≤ k → k < wr.heap.size → w'.heap[k]? = wr.heap[k]?) : NM w' B gt T' G0 base top N Ab An As Ar cb cn cs cr w' := by
  obtain ⟨o1, o2, o3, o4⟩ := h.ord
  exact ⟨ht, ownN_to h.blocks fun k hk hlt => hb k (ownN_type h.blocks hk).2 hlt, h.next.keep fun k hk hlt _ => hb k hk hlt, ownN_to h.spurs fun k hk hlt => hb k (ownN_type h.spurs hk).2 hlt, ownN_to h.robots fun k hk hlt => hb k (Nat.le_trans o3 (ownN_type h.robots hk).2) hlt, Still.refl _ _ _, Nat.le_trans h.size hz, h.ord⟩
end
theorem NetOk.len {N : NetD} (h : NetOk N) : NetLen N :=
  ⟨by have := h.few; omega, by have := h.few; rw [h.lanes]; omega, fun r hr => by have := h.outs r hr; omega, by have := h.spurs6; omega, by have := h.robots8; omega, fun s hs => by have := name_short (h.named s hs); unfold maxLen; omega⟩
theorem set2_cells {W : World} {g : Nat} {a0 a1 v0 v1 : Value} {t : TypeId} (h : W.heap[g]? = some (.cells #[a0, a1] t (0, 0))) : ((W.setCell ⟨g, 0, none⟩ v0).setCell ⟨g, 1, none⟩ v1).heap[g]? = some (.cells #[v0, v1] t (0, 0)) := by
  have e0 := set1_at (i := 0) (v := v0) h
  have e0' : _ = some (Obj.cells #[v0, a1] t (0, 0)) := e0
  have e1 := set1_at (i := 1) (v := v1) e0'
  have e1' : _ = some (Obj.cells #[v0, v1] t (0, 0)) := e1
  exact e1'
theorem two_c {w : World} {Y : Nat} {a b : Value} {t : TypeId} (h : w.heap[Y]? = some (.cells #[a, b] t (0, 0))) : w.cell? ⟨Y, 0, none⟩ = some a ∧ w.cell? ⟨Y, 1, none⟩ = some b :=
  ⟨by rw [cell_of_row w Y 0 _ _ _ h]; rfl, by rw [cell_of_row w Y 1 _ _ _ h]; rfl⟩
theorem set3_cells {W : World} {g : Nat} {a0 a1 a2 v0 v1 v2 : Value} {t : TypeId} (h : W.heap[g]? = some (.cells #[a0, a1, a2] t (0, 0))) : (((W.setCell ⟨g, 0, none⟩ v0).setCell ⟨g, 1, none⟩ v1).setCell ⟨g, 2, none⟩ v2).heap[g]? = some (.cells #[v0, v1, v2] t (0, 0)) := by
  have e0 : _ = some (Obj.cells #[v0, a1, a2] t (0, 0)) := set1_at (i := 0) (v := v0) h
  have e1 : _ = some (Obj.cells #[v0, v1, a2] t (0, 0)) := set1_at (i := 1) (v := v1) e0
  have e2 : _ = some (Obj.cells #[v0, v1, v2] t (0, 0)) := set1_at (i := 2) (v := v2) e1
  exact e2
theorem three_c {w : World} {Y : Nat} {a b c : Value} {t : TypeId} (h : w.heap[Y]? = some (.cells #[a, b, c] t (0, 0))) : w.cell? ⟨Y, 0, none⟩ = some a ∧ w.cell? ⟨Y, 1, none⟩ = some b ∧ w.cell? ⟨Y, 2, none⟩ = some c :=
  ⟨by rw [cell_of_row w Y 0 _ _ _ h]; rfl, by rw [cell_of_row w Y 1 _ _ _ h]; rfl, by rw [cell_of_row w Y 2 _ _ _ h]; rfl⟩
/-- Numbers are taken from the tape, and nothing else is written. -/
structure KX (B gt : Nat) (w0 : World) (T : Nat) (W : World) : Prop where
  tape : TapeOk W B gt T
  grown : w0.grownBy W (some gt)
theorem KX.drew {B gt T : Nat} {w0 W : World} (h : KX B gt w0 T W) : KX B gt w0 T W.drew :=
  ⟨h.tape.keep (Below.refl _ _).drew, ⟨h.grown.os, h.grown.tape, h.grown.output, h.grown.size, h.grown.block⟩⟩
theorem KX.next {B gt : Nat} {w0 : World} (T : Nat) (n : Int) (W : World) (h : KX B gt w0 T W) (hT : T ≤ 100000) (h1 : 1 ≤ n) (hn : n ≤ 1000000) : Calls Try.prog 10 #[.pointer (some ⟨gt, 0, none⟩), .int .i64 n] W fun e w' => ∃ r : Nat, (r : Int) < n ∧ e = .returned (.int .i64 r) ∧ KX B gt w0 (T + 1) w' := by
  refine (next_c B gt T n W h.tape (by omega) h1 hn).mono ?_
  rintro e w' ⟨r, hr, rfl, ht, hg⟩
  exact ⟨r, hr, rfl, ht, grown_trans h.grown hg⟩
/-- What a block holds. -/
def HeapIs (W : World) (k : Nat) (o : Obj) : Prop := W.heap[k]? = some o
theorem HeapIs.drew {W : World} {k : Nat} {o : Obj} (h : HeapIs W k o) : HeapIs W.drew k o := h
theorem HeapIs.set {W : World} {k X i : Nat} {o : Obj} {v : Value} (h : HeapIs W k o) (hX : X ≠ k) : HeapIs (W.setCell ⟨X, i, none⟩ v) k o := (Below.heap_setCell W ⟨X, i, none⟩ v k (fun e => hX e.symm)).trans h
theorem KX.is {B gt T k : Nat} {w0 W : World} {o : Obj} (h : KX B gt w0 T W) (ho : w0.heap[k]? = some o) (hk : k ≠ gt) : HeapIs W k o := (h.grown.block k (block_lt ho) (fun e => by injection e with e; exact hk e)).trans ho
/-- A contract, met in a later world. -/
theorem laterC {f : FuncId} {args : Array Value} {r : Ending} {W0 : World} (h : ∀ W, Below W0.heap.size W0 W → Calls Try.prog f args W fun e w' => e = r ∧ Below W.heap.size W w') :
    ∀ W, Below W0.heap.size W0 W → Calls Try.prog f args W fun e w' => e = r ∧ Below W0.heap.size W0 w' :=
  fun W hW => (h W hW).mono fun _ _ hh => ⟨hh.1, hW.trans (hh.2.mono hW.size)⟩
end Go.Proofs.Ytjbhmeeebacnpaa
namespace Go.Proofs.Ytjbhmeeebacnpaa
open Go Go.RowKit Fl

set_option maxRecDepth 100000 in
set_option maxHeartbeats 1500000 in
theorem refChange_c (Ab An As Ar : Option Addr) (cb cn cs cr : Nat) (N : NetD) (b : BodD) (a c : Int) (fol : Bool) (w : World)
    (hF : ∀ W, Below w.heap.size w W → Calls Try.prog 53 #[.agg #[.slice Ab N.blocks.length cb, .slice An N.next.length cn, .slice As N.spurs.length cs, .slice Ar N.robots.length cr, Iv N.queue, Iv N.aging, Iv N.detours, Iv N.patience], .int .i64 b.cel, .int .i64 c] W fun e w' => e = .returned (.bool fol) ∧ Below W.heap.size W w') :
    Calls Try.prog 32 #[.agg #[.slice Ab N.blocks.length cb, .slice An N.next.length cn, .slice As N.spurs.length cs, .slice Ar N.robots.length cr, Iv N.queue, Iv N.aging, Iv N.detours, Iv N.patience], BV b, .int .i64 a, .int .i64 c] w fun e w' => e = .returned (.tuple #[BV (chgB b a c), .bool (okB fol b a)]) ∧ Below w.heap.size w w' := by
  have HF := Lib.hid hF
  have HR := Lib.hid (fun W => refRest_c b W)
  have HZ := Lib.hid (three_bd w (.cells (netCells Ab An As Ar cb cn cs cr N) 29))
  clear hF
  by_cases h0 : a = 0
  · subst h0
    have HE : Hid (chgB b 0 c = ⟨c, -1, false, false⟩ ∧ okB fol b 0 = !(b.cel != -1)) := Lib.hid ⟨rfl, rfl⟩
    obtain ⟨cel, dst, srv, flt⟩ := b
    rw [HE.out.1, HE.out.2]
    clear HF HR HE
    go_enter Try.func32, Try.ntmps32
    go_wp2
    exact bodyPost_ret (results_bd rfl _ _ _ ⟨c, -1, false, false⟩ _ rfl (HZ.out ⟨cel, dst, srv, flt⟩ ⟨c, -1, false, false⟩).1 rfl) rfl ⟨rfl, (HZ.out ⟨cel, dst, srv, flt⟩ ⟨c, -1, false, false⟩).2.2⟩
  have n0 : (a == 0) = false := by rw [beq_eq_false_iff_ne]; exact h0
  by_cases h1 : a = 1
  · subst h1
    have HE : Hid (chgB b 1 c = ⟨b.cel, c, b.srv, b.flt⟩ ∧ okB fol b 1 = (restB b && fol)) := Lib.hid ⟨rfl, rfl⟩
    obtain ⟨cel, dst, srv, flt⟩ := b
    rw [HE.out.1, HE.out.2]
    generalize restB ⟨cel, dst, srv, flt⟩ = z at *
    clear HE n0 h0
    obtain ⟨g1, g2, g3⟩ := HZ.out ⟨cel, dst, srv, flt⟩ zeroB
    have HG : Hid (BodAt (((w.alloc (.cells (netCells Ab An As Ar cb cn cs cr N) 29)).alloc (.cells #[.int .i64 cel, .int .i64 dst, .bool srv, .bool flt] 40)).alloc (.cells #[.int .i64 0, .int .i64 0, .bool false, .bool false] 40)) (w.heap.size + 1 + 1) zeroB) := Lib.hid g1
    have HQ : Hid (BodAt (((w.alloc (.cells (netCells Ab An As Ar cb cn cs cr N) 29)).alloc (.cells #[.int .i64 cel, .int .i64 dst, .bool srv, .bool flt] 40)).alloc (.cells #[.int .i64 0, .int .i64 0, .bool false, .bool false] 40)) (w.heap.size + 1) ⟨cel, dst, srv, flt⟩) := Lib.hid g2
    have HB : Hid (Below w.heap.size w (((w.alloc (.cells (netCells Ab An As Ar cb cn cs cr N) 29)).alloc (.cells #[.int .i64 cel, .int .i64 dst, .bool srv, .bool flt] 40)).alloc (.cells #[.int .i64 0, .int .i64 0, .bool false, .bool false] 40))) := Lib.hid g3
    have HX : Hid ((((w.alloc (.cells (netCells Ab An As Ar cb cn cs cr N) 29)).alloc (.cells #[.int .i64 cel, .int .i64 dst, .bool srv, .bool flt] 40)).alloc (.cells #[.int .i64 0, .int .i64 0, .bool false, .bool false] 40)).heap[w.heap.size]? = some (.cells (netCells Ab An As Ar cb cn cs cr N) 29 (0, 0))) := Lib.hid ((Below.heap_alloc _ _ _ (by simp; omega)).trans ((Below.heap_alloc _ _ _ (by simp)).trans (heap_alloc_new w _)))
    have hsz : w.heap.size + 1 + 1 < (((w.alloc (.cells (netCells Ab An As Ar cb cn cs cr N) 29)).alloc (.cells #[.int .i64 cel, .int .i64 dst, .bool srv, .bool flt] 40)).alloc (.cells #[.int .i64 0, .int .i64 0, .bool false, .bool false] 40)).heap.size := by simp
    clear g1 g2 g3 HZ
    rcases z with _ | _
    · clear HF
      go_enter Try.func32, Try.ntmps32
      go_wp2_with fail
      generalize (((w.alloc (.cells (netCells Ab An As Ar cb cn cs cr N) 29)).alloc (.cells #[.int .i64 cel, .int .i64 dst, .bool srv, .bool flt] 40)).alloc (.cells #[.int .i64 0, .int .i64 0, .bool false, .bool false] 40)) = w3 at *
      refine (HR.out _).mono ?_
      rintro e w4 ⟨rfl, hb4⟩
      have HG4 := Lib.hid (HG.out.keep hb4)
      have HQ4 := Lib.hid (HQ.out.keep hb4)
      have HB4 := Lib.hid (HB.out.trans (hb4.mono HB.out.size))
      have hX4 := (hb4.block _ (block_lt HX.out)).trans HX.out
      have hz4 : w.heap.size + 1 + 1 < w4.heap.size := Nat.lt_of_lt_of_le hsz hb4.size
      obtain ⟨x0, x1, x2, x3, x4, x5, x6, x7⟩ := boxAt_of hX4
      obtain ⟨y0, y1, y2, y3⟩ := HQ4.out.cell
      obtain ⟨z0, z1, z2, z3⟩ := HG4.out.cell
      have fq := HQ4.out.frozen
      have fg := HG4.out.frozen
      clear hb4 HR HG HQ HB HX hsz hX4
      have HF1 := Lib.hid (((HG4.out.far (X := w.heap.size + 1) (i := 1) (v := (.int .i64 c)) (by omega)).put4 ⟨cel, c, srv, flt⟩))
      have HB9 := Lib.hid (below_put (i := 1) (v := (.int .i64 c)) HB4.out (show w.heap.size ≤ w.heap.size + 1 by omega))
      have HB8 : Hid (∀ p q r s : Value, Below w.heap.size w (((((w4.setCell ⟨w.heap.size + 1, 1, none⟩ (.int .i64 c)).setCell ⟨w.heap.size + 1 + 1, 0, none⟩ p).setCell ⟨w.heap.size + 1 + 1, 1, none⟩ q).setCell ⟨w.heap.size + 1 + 1, 2, none⟩ r).setCell ⟨w.heap.size + 1 + 1, 3, none⟩ s)) := Lib.hid (fun p q r s => below_put (below_put (below_put (below_put HB9.out (by omega)) (by omega)) (by omega)) (by omega))
      go_wp2
      exact bodyPost_ret (results_bd rfl _ _ _ ⟨cel, c, srv, flt⟩ _ rfl HF1.out rfl) rfl ⟨rfl, HB8.out _ _ _ _⟩
    · skip
      go_enter Try.func32, Try.ntmps32
      go_wp2_with fail
      generalize (((w.alloc (.cells (netCells Ab An As Ar cb cn cs cr N) 29)).alloc (.cells #[.int .i64 cel, .int .i64 dst, .bool srv, .bool flt] 40)).alloc (.cells #[.int .i64 0, .int .i64 0, .bool false, .bool false] 40)) = w3 at *
      refine (HR.out _).mono ?_
      rintro e w4 ⟨rfl, hb4⟩
      have HG4 := Lib.hid (HG.out.keep hb4)
      have HQ4 := Lib.hid (HQ.out.keep hb4)
      have HB4 := Lib.hid (HB.out.trans (hb4.mono HB.out.size))
      have hX4 := (hb4.block _ (block_lt HX.out)).trans HX.out
      have hz4 : w.heap.size + 1 + 1 < w4.heap.size := Nat.lt_of_lt_of_le hsz hb4.size
      obtain ⟨x0, x1, x2, x3, x4, x5, x6, x7⟩ := boxAt_of hX4
      obtain ⟨y0, y1, y2, y3⟩ := HQ4.out.cell
      obtain ⟨z0, z1, z2, z3⟩ := HG4.out.cell
      have fq := HQ4.out.frozen
      have fg := HG4.out.frozen
      clear hb4 HR HG HQ HB HX hsz hX4
      go_wp2_with fail
      refine (HF.out _ HB4.out).mono ?_
      rintro e w5 ⟨rfl, hb5⟩
      have HG5 := Lib.hid (HG4.out.keep hb5)
      have HQ5 := Lib.hid (HQ4.out.keep hb5)
      have HB5 := Lib.hid (HB4.out.trans (hb5.mono HB4.out.size))
      obtain ⟨y0, y1, y2, y3⟩ := HQ5.out.cell
      obtain ⟨z0, z1, z2, z3⟩ := HG5.out.cell
      have fq := HQ5.out.frozen
      have fg := HG5.out.frozen
      clear hb5 HF HG4 HQ4 HB4 x0 x1 x2 x3 x4 x5 x6 x7
      have HF1 := Lib.hid (((HG5.out.far (X := w.heap.size + 1) (i := 1) (v := (.int .i64 c)) (by omega)).put4 ⟨cel, c, srv, flt⟩))
      have HB9 := Lib.hid (below_put (i := 1) (v := (.int .i64 c)) HB5.out (show w.heap.size ≤ w.heap.size + 1 by omega))
      have HB8 : Hid (∀ p q r s : Value, Below w.heap.size w (((((w5.setCell ⟨w.heap.size + 1, 1, none⟩ (.int .i64 c)).setCell ⟨w.heap.size + 1 + 1, 0, none⟩ p).setCell ⟨w.heap.size + 1 + 1, 1, none⟩ q).setCell ⟨w.heap.size + 1 + 1, 2, none⟩ r).setCell ⟨w.heap.size + 1 + 1, 3, none⟩ s)) := Lib.hid (fun p q r s => below_put (below_put (below_put (below_put HB9.out (by omega)) (by omega)) (by omega)) (by omega))
      go_wp2
      exact bodyPost_ret (results_bd rfl _ _ _ ⟨cel, c, srv, flt⟩ _ rfl HF1.out rfl) rfl ⟨rfl, HB8.out _ _ _ _⟩
  have n1 : (a == 1) = false := by rw [beq_eq_false_iff_ne]; exact h1
  by_cases h2 : a = 2
  · subst h2
    have HE : Hid (chgB b 2 c = ⟨b.dst, -1, b.srv, b.flt⟩ ∧ okB fol b 2 = (b.cel != -1 && b.dst != -1 && !b.flt)) := Lib.hid ⟨rfl, rfl⟩
    obtain ⟨cel, dst, srv, flt⟩ := b
    rw [HE.out.1, HE.out.2]
    clear HF HR HE n0 n1 h0 h1
    obtain ⟨u1, hu1⟩ : ∃ u, (cel != -1) = u := ⟨_, rfl⟩
    obtain ⟨u2, hu2⟩ : ∃ u, (dst != -1) = u := ⟨_, rfl⟩
    rw [hu1, hu2]
    rcases u1 with _ | _
    · go_enter Try.func32, Try.ntmps32
      go_wp2
      exact bodyPost_ret (results_bd rfl _ _ _ ⟨dst, -1, srv, flt⟩ _ rfl (HZ.out ⟨dst, -1, srv, flt⟩ ⟨dst, -1, srv, flt⟩).1 rfl) rfl ⟨rfl, (HZ.out ⟨dst, -1, srv, flt⟩ ⟨dst, -1, srv, flt⟩).2.2⟩
    · rcases u2 with _ | _
      · go_enter Try.func32, Try.ntmps32
        go_wp2
        exact bodyPost_ret (results_bd rfl _ _ _ ⟨dst, -1, srv, flt⟩ _ rfl (HZ.out ⟨dst, -1, srv, flt⟩ ⟨dst, -1, srv, flt⟩).1 rfl) rfl ⟨rfl, (HZ.out ⟨dst, -1, srv, flt⟩ ⟨dst, -1, srv, flt⟩).2.2⟩
      · go_enter Try.func32, Try.ntmps32
        go_wp2
        exact bodyPost_ret (results_bd rfl _ _ _ ⟨dst, -1, srv, flt⟩ _ rfl (HZ.out ⟨dst, -1, srv, flt⟩ ⟨dst, -1, srv, flt⟩).1 rfl) rfl ⟨rfl, (HZ.out ⟨dst, -1, srv, flt⟩ ⟨dst, -1, srv, flt⟩).2.2⟩
  have n2 : (a == 2) = false := by rw [beq_eq_false_iff_ne]; exact h2
  by_cases h3 : a = 3
  · subst h3
    have HE : Hid (chgB b 3 c = ⟨b.cel, b.dst, true, b.flt⟩ ∧ okB fol b 3 = restB b) := Lib.hid ⟨rfl, rfl⟩
    obtain ⟨cel, dst, srv, flt⟩ := b
    rw [HE.out.1, HE.out.2]
    generalize restB ⟨cel, dst, srv, flt⟩ = z at *
    clear HE n0 n1 n2 h0 h1 h2 HF
    obtain ⟨g1, g2, g3⟩ := HZ.out ⟨cel, dst, srv, flt⟩ zeroB
    have HG : Hid (BodAt (((w.alloc (.cells (netCells Ab An As Ar cb cn cs cr N) 29)).alloc (.cells #[.int .i64 cel, .int .i64 dst, .bool srv, .bool flt] 40)).alloc (.cells #[.int .i64 0, .int .i64 0, .bool false, .bool false] 40)) (w.heap.size + 1 + 1) zeroB) := Lib.hid g1
    have HQ : Hid (BodAt (((w.alloc (.cells (netCells Ab An As Ar cb cn cs cr N) 29)).alloc (.cells #[.int .i64 cel, .int .i64 dst, .bool srv, .bool flt] 40)).alloc (.cells #[.int .i64 0, .int .i64 0, .bool false, .bool false] 40)) (w.heap.size + 1) ⟨cel, dst, srv, flt⟩) := Lib.hid g2
    have HB : Hid (Below w.heap.size w (((w.alloc (.cells (netCells Ab An As Ar cb cn cs cr N) 29)).alloc (.cells #[.int .i64 cel, .int .i64 dst, .bool srv, .bool flt] 40)).alloc (.cells #[.int .i64 0, .int .i64 0, .bool false, .bool false] 40))) := Lib.hid g3
    have HX : Hid ((((w.alloc (.cells (netCells Ab An As Ar cb cn cs cr N) 29)).alloc (.cells #[.int .i64 cel, .int .i64 dst, .bool srv, .bool flt] 40)).alloc (.cells #[.int .i64 0, .int .i64 0, .bool false, .bool false] 40)).heap[w.heap.size]? = some (.cells (netCells Ab An As Ar cb cn cs cr N) 29 (0, 0))) := Lib.hid ((Below.heap_alloc _ _ _ (by simp; omega)).trans ((Below.heap_alloc _ _ _ (by simp)).trans (heap_alloc_new w _)))
    have hsz : w.heap.size + 1 + 1 < (((w.alloc (.cells (netCells Ab An As Ar cb cn cs cr N) 29)).alloc (.cells #[.int .i64 cel, .int .i64 dst, .bool srv, .bool flt] 40)).alloc (.cells #[.int .i64 0, .int .i64 0, .bool false, .bool false] 40)).heap.size := by simp
    clear g1 g2 g3 HZ
    go_enter Try.func32, Try.ntmps32
    go_wp2_with fail
    generalize (((w.alloc (.cells (netCells Ab An As Ar cb cn cs cr N) 29)).alloc (.cells #[.int .i64 cel, .int .i64 dst, .bool srv, .bool flt] 40)).alloc (.cells #[.int .i64 0, .int .i64 0, .bool false, .bool false] 40)) = w3 at *
    refine (HR.out _).mono ?_
    rintro e w4 ⟨rfl, hb4⟩
    have HG4 := Lib.hid (HG.out.keep hb4)
    have HQ4 := Lib.hid (HQ.out.keep hb4)
    have HB4 := Lib.hid (HB.out.trans (hb4.mono HB.out.size))
    have hX4 := (hb4.block _ (block_lt HX.out)).trans HX.out
    have hz4 : w.heap.size + 1 + 1 < w4.heap.size := Nat.lt_of_lt_of_le hsz hb4.size
    obtain ⟨x0, x1, x2, x3, x4, x5, x6, x7⟩ := boxAt_of hX4
    obtain ⟨y0, y1, y2, y3⟩ := HQ4.out.cell
    obtain ⟨z0, z1, z2, z3⟩ := HG4.out.cell
    have fq := HQ4.out.frozen
    have fg := HG4.out.frozen
    clear hb4 HR HG HQ HB HX hsz hX4
    have HF1 := Lib.hid (((HG4.out.far (X := w.heap.size + 1) (i := 2) (v := (.bool true)) (by omega)).put4 ⟨cel, dst, true, flt⟩))
    have HB9 := Lib.hid (below_put (i := 2) (v := (.bool true)) HB4.out (show w.heap.size ≤ w.heap.size + 1 by omega))
    have HB8 : Hid (∀ p q r s : Value, Below w.heap.size w (((((w4.setCell ⟨w.heap.size + 1, 2, none⟩ (.bool true)).setCell ⟨w.heap.size + 1 + 1, 0, none⟩ p).setCell ⟨w.heap.size + 1 + 1, 1, none⟩ q).setCell ⟨w.heap.size + 1 + 1, 2, none⟩ r).setCell ⟨w.heap.size + 1 + 1, 3, none⟩ s)) := Lib.hid (fun p q r s => below_put (below_put (below_put (below_put HB9.out (by omega)) (by omega)) (by omega)) (by omega))
    go_wp2
    exact bodyPost_ret (results_bd rfl _ _ _ ⟨cel, dst, true, flt⟩ _ rfl HF1.out rfl) rfl ⟨rfl, HB8.out _ _ _ _⟩
  have n3 : (a == 3) = false := by rw [beq_eq_false_iff_ne]; exact h3
  by_cases h4 : a = 4
  · subst h4
    have HE : Hid (chgB b 4 c = ⟨b.cel, b.dst, false, b.flt⟩ ∧ okB fol b 4 = (b.cel != -1 && b.srv && !b.flt)) := Lib.hid ⟨rfl, rfl⟩
    obtain ⟨cel, dst, srv, flt⟩ := b
    rw [HE.out.1, HE.out.2]
    clear HF HR HE n0 n1 n2 n3 h0 h1 h2 h3
    obtain ⟨u1, hu1⟩ : ∃ u, (cel != -1) = u := ⟨_, rfl⟩
    rw [hu1]
    rcases u1 with _ | _
    · go_enter Try.func32, Try.ntmps32
      go_wp2
      exact bodyPost_ret (results_bd rfl _ _ _ ⟨cel, dst, false, flt⟩ _ rfl (HZ.out ⟨cel, dst, false, flt⟩ ⟨cel, dst, false, flt⟩).1 rfl) rfl ⟨rfl, (HZ.out ⟨cel, dst, false, flt⟩ ⟨cel, dst, false, flt⟩).2.2⟩
    · rcases srv with _ | _
      · go_enter Try.func32, Try.ntmps32
        go_wp2
        exact bodyPost_ret (results_bd rfl _ _ _ ⟨cel, dst, false, flt⟩ _ rfl (HZ.out ⟨cel, dst, false, flt⟩ ⟨cel, dst, false, flt⟩).1 rfl) rfl ⟨rfl, (HZ.out ⟨cel, dst, false, flt⟩ ⟨cel, dst, false, flt⟩).2.2⟩
      · go_enter Try.func32, Try.ntmps32
        go_wp2
        exact bodyPost_ret (results_bd rfl _ _ _ ⟨cel, dst, false, flt⟩ _ rfl (HZ.out ⟨cel, dst, false, flt⟩ ⟨cel, dst, false, flt⟩).1 rfl) rfl ⟨rfl, (HZ.out ⟨cel, dst, false, flt⟩ ⟨cel, dst, false, flt⟩).2.2⟩
  have n4 : (a == 4) = false := by rw [beq_eq_false_iff_ne]; exact h4
  by_cases h5 : a = 5
  · subst h5
    have HE : Hid (chgB b 5 c = ⟨b.cel, b.dst, b.srv, true⟩ ∧ okB fol b 5 = (b.cel != -1)) := Lib.hid ⟨rfl, rfl⟩
    obtain ⟨cel, dst, srv, flt⟩ := b
    rw [HE.out.1, HE.out.2]
    clear HF HR HE n0 n1 n2 n3 n4 h0 h1 h2 h3 h4
    go_enter Try.func32, Try.ntmps32
    go_wp2
    exact bodyPost_ret (results_bd rfl _ _ _ ⟨cel, dst, srv, true⟩ _ rfl (HZ.out ⟨cel, dst, srv, true⟩ ⟨cel, dst, srv, true⟩).1 rfl) rfl ⟨rfl, (HZ.out ⟨cel, dst, srv, true⟩ ⟨cel, dst, srv, true⟩).2.2⟩
  have n5 : (a == 5) = false := by rw [beq_eq_false_iff_ne]; exact h5
  have HE : Hid (chgB b a c = offB ∧ okB fol b a = (b.cel != -1 && (restB b || b.flt))) := Lib.hid (by
    unfold chgB okB floorB
    rw [if_neg h0, if_neg h1, if_neg h2, if_neg h3, if_neg h4, if_neg h5, if_neg h0, if_neg h1, if_neg h2, if_neg h3, if_neg h4, if_neg h5]
    exact ⟨rfl, rfl⟩)
  obtain ⟨cel, dst, srv, flt⟩ := b
  rw [HE.out.1, HE.out.2]
  generalize restB ⟨cel, dst, srv, flt⟩ = z at *
  clear HE h0 h1 h2 h3 h4 h5 HF
  obtain ⟨u1, hu1⟩ : ∃ u, (cel != -1) = u := ⟨_, rfl⟩
  rw [hu1]
  obtain ⟨g1, g2, g3⟩ := HZ.out ⟨cel, dst, srv, flt⟩ zeroB
  have HG : Hid (BodAt (((w.alloc (.cells (netCells Ab An As Ar cb cn cs cr N) 29)).alloc (.cells #[.int .i64 cel, .int .i64 dst, .bool srv, .bool flt] 40)).alloc (.cells #[.int .i64 0, .int .i64 0, .bool false, .bool false] 40)) (w.heap.size + 1 + 1) zeroB) := Lib.hid g1
  have HQ : Hid (BodAt (((w.alloc (.cells (netCells Ab An As Ar cb cn cs cr N) 29)).alloc (.cells #[.int .i64 cel, .int .i64 dst, .bool srv, .bool flt] 40)).alloc (.cells #[.int .i64 0, .int .i64 0, .bool false, .bool false] 40)) (w.heap.size + 1) ⟨cel, dst, srv, flt⟩) := Lib.hid g2
  have HB : Hid (Below w.heap.size w (((w.alloc (.cells (netCells Ab An As Ar cb cn cs cr N) 29)).alloc (.cells #[.int .i64 cel, .int .i64 dst, .bool srv, .bool flt] 40)).alloc (.cells #[.int .i64 0, .int .i64 0, .bool false, .bool false] 40))) := Lib.hid g3
  have HX : Hid ((((w.alloc (.cells (netCells Ab An As Ar cb cn cs cr N) 29)).alloc (.cells #[.int .i64 cel, .int .i64 dst, .bool srv, .bool flt] 40)).alloc (.cells #[.int .i64 0, .int .i64 0, .bool false, .bool false] 40)).heap[w.heap.size]? = some (.cells (netCells Ab An As Ar cb cn cs cr N) 29 (0, 0))) := Lib.hid ((Below.heap_alloc _ _ _ (by simp; omega)).trans ((Below.heap_alloc _ _ _ (by simp)).trans (heap_alloc_new w _)))
  have hsz : w.heap.size + 1 + 1 < (((w.alloc (.cells (netCells Ab An As Ar cb cn cs cr N) 29)).alloc (.cells #[.int .i64 cel, .int .i64 dst, .bool srv, .bool flt] 40)).alloc (.cells #[.int .i64 0, .int .i64 0, .bool false, .bool false] 40)).heap.size := by simp
  clear g1 g2 g3 HZ
  have HB8 : Hid (∀ W, Below w.heap.size w W → ∀ p q r s : Value, Below w.heap.size w ((((W.setCell ⟨w.heap.size + 1 + 1, 0, none⟩ p).setCell ⟨w.heap.size + 1 + 1, 1, none⟩ q).setCell ⟨w.heap.size + 1 + 1, 2, none⟩ r).setCell ⟨w.heap.size + 1 + 1, 3, none⟩ s)) := Lib.hid (fun W h p q r s => below_put (below_put (below_put (below_put h (by omega)) (by omega)) (by omega)) (by omega))
  have e5 : (a == 5) = false := n5
  rcases u1 with _ | _
  · clear HR
    go_enter Try.func32, Try.ntmps32
    go_wp2_with fail
    generalize (((w.alloc (.cells (netCells Ab An As Ar cb cn cs cr N) 29)).alloc (.cells #[.int .i64 cel, .int .i64 dst, .bool srv, .bool flt] 40)).alloc (.cells #[.int .i64 0, .int .i64 0, .bool false, .bool false] 40)) = w3 at *
    rename_i Q1 K1 hK1
    have HGd : Hid (BodAt w3.drew (w.heap.size + 1 + 1) zeroB) := Lib.hid HG.out
    have HQd : Hid (BodAt w3.drew (w.heap.size + 1) ⟨cel, dst, srv, flt⟩) := Lib.hid HQ.out
    have HBd : Hid (Below w.heap.size w w3.drew) := Lib.hid HB.out.drew
    obtain ⟨y0, y1, y2, y3⟩ := HQd.out.cell
    obtain ⟨z0, z1, z2, z3⟩ := HGd.out.cell
    have fq := HQd.out.frozen
    have fg := HGd.out.frozen
    obtain ⟨yy0, yy1, yy2, yy3⟩ := HQ.out.cell
    obtain ⟨zz0, zz1, zz2, zz3⟩ := HG.out.cell
    have fqq := HQ.out.frozen
    have fgg := HG.out.frozen
    clear HX hsz HG HQ HB
    refine wp_region_noPanic ?_
    refine wp_region_held_drew (S := fun W => W.cell? ⟨w.heap.size + 1, 0, none⟩ = some (.int .i64 cel) ∧ W.cell? ⟨w.heap.size + 1, 1, none⟩ = some (.int .i64 dst) ∧ W.cell? ⟨w.heap.size + 1, 2, none⟩ = some (.bool srv) ∧ W.cell? ⟨w.heap.size + 1, 3, none⟩ = some (.bool flt)) (by kernel_rfl) ⟨y0, y1, y2, y3⟩ (fun hHeld => ?_)
    refine wpAnyH_take (i := 0) (oi := { dst := some 86, op := Op.build 40 #[(0, Operand.const (Value.int IntKind.i64 (-1))), (1, Operand.const (Value.int IntKind.i64 (-1)))], type := 40, pos := "ref.go:49", after := #[], guard := none }) (v := ?v0) rfl (by kernel_rfl) (by kernel_rfl) (by kernel_rfl) (fun _ _ _ h => h) (Or.inl ⟨by rfl, ?hy0⟩) (by assumption) ?rest0
    case hy0 => ((intro w hSw; (try dsimp only at hSw); go_simp) <;> (with_reducible rfl))
    try simp only [Act.put, List.setIfInBounds_toArray, List.set_cons_zero, List.set_cons_succ]
    refine wpAnyH_take (i := 1) (oi := { dst := some 87, op := Op.move (Operand.tmp 10), type := 4, pos := "ref.go:49", after := #[], guard := none }) (v := ?v1) rfl (by kernel_rfl) (by kernel_rfl) (by kernel_rfl) (fun _ _ _ h => h) (Or.inl ⟨by rfl, ?hy1⟩) (by assumption) ?rest1
    case hy1 => ((intro w hSw; (try dsimp only at hSw); go_simp) <;> (with_reducible rfl))
    try simp only [Act.put, List.setIfInBounds_toArray, List.set_cons_zero, List.set_cons_succ]
    refine wpAnyH_take (i := 2) (oi := { dst := some 88, op := Op.move (Operand.tmp 87), type := 4, pos := "ref.go:49", after := #[{ on := 1, ground := Ground.data }], guard := none }) (v := ?v2) rfl (by kernel_rfl) (by kernel_rfl) (by kernel_rfl) (fun _ _ _ h => h) (Or.inl ⟨by rfl, ?hy2⟩) (by assumption) ?rest2
    case hy2 => ((intro w hSw; (try dsimp only at hSw); go_simp) <;> (with_reducible rfl))
    try simp only [Act.put, List.setIfInBounds_toArray, List.set_cons_zero, List.set_cons_succ]
    refine wpAnyH_take (i := 3) (oi := { dst := some 89, op := Op.load 40 (Operand.tmp 5), type := 40, pos := "ref.go:49", after := #[{ on := 2, ground := Ground.guard }], guard := some (2, true) }) (v := undef) rfl (by kernel_rfl) (by kernel_rfl) (by kernel_rfl) (fun _ _ _ h => h) (Or.inr ⟨by rfl, rfl⟩) (by assumption) ?_
    try simp only [Act.put, List.setIfInBounds_toArray, List.set_cons_zero, List.set_cons_succ]
    refine wpAnyH_take (i := 4) (oi := { dst := some 90, op := Op.call { callee := Callee.value (Operand.func 52), args := #[Operand.tmp 89], argTypes := #[40] }, type := 4, pos := "ref.go:49", after := #[{ on := 3, ground := Ground.data }, { on := 2, ground := Ground.chain }, { on := 2, ground := Ground.guard }], guard := some (2, true) }) (v := undef) rfl (by kernel_rfl) (by kernel_rfl) (by kernel_rfl) (fun _ _ _ h => h) (Or.inr ⟨by rfl, rfl⟩) (by assumption) ?_
    try simp only [Act.put, List.setIfInBounds_toArray, List.set_cons_zero, List.set_cons_succ]
    refine wpAnyH_take (i := 5) (oi := { dst := some 91, op := Op.move (Operand.tmp 90), type := 4, pos := "ref.go:49", after := #[{ on := 4, ground := Ground.data }, { on := 4, ground := Ground.chain }, { on := 2, ground := Ground.guard }], guard := some (2, true) }) (v := undef) rfl (by kernel_rfl) (by kernel_rfl) (by kernel_rfl) (fun _ _ _ h => h) (Or.inr ⟨by rfl, rfl⟩) (by assumption) ?_
    try simp only [Act.put, List.setIfInBounds_toArray, List.set_cons_zero, List.set_cons_succ]
    refine wpAnyH_take (i := 6) (oi := { dst := some 92, op := Op.fieldAddr 40 (Operand.tmp 5) 3, type := 0, pos := "ref.go:49", after := #[{ on := 5, ground := Ground.guard }, { on := 10, ground := Ground.gcOnly Departure.lateStores }], guard := some (5, false) }) (v := undef) rfl (by kernel_rfl) (by kernel_rfl) (by kernel_rfl) (fun _ _ _ h => h) (Or.inr ⟨by rfl, rfl⟩) (by assumption) ?_
    try simp only [Act.put, List.setIfInBounds_toArray, List.set_cons_zero, List.set_cons_succ]
    refine wpAnyH_take (i := 7) (oi := { dst := some 93, op := Op.load 4 (Operand.tmp 92), type := 4, pos := "ref.go:49", after := #[{ on := 6, ground := Ground.data }, { on := 5, ground := Ground.guard }, { on := 10, ground := Ground.gcOnly Departure.lateStores }], guard := some (5, false) }) (v := undef) rfl (by kernel_rfl) (by kernel_rfl) (by kernel_rfl) (fun _ _ _ h => h) (Or.inr ⟨by rfl, rfl⟩) (by assumption) ?_
    try simp only [Act.put, List.setIfInBounds_toArray, List.set_cons_zero, List.set_cons_succ]
    refine wpAnyH_take (i := 8) (oi := { dst := some 94, op := Op.pick (Operand.tmp 91) (Operand.const (Value.bool true)) (Operand.tmp 93), type := 4, pos := "ref.go:49", after := #[{ on := 5, ground := Ground.data }, { on := 7, ground := Ground.data }, { on := 2, ground := Ground.guard }, { on := 10, ground := Ground.gcOnly Departure.lateStores }], guard := some (2, true) }) (v := undef) rfl (by kernel_rfl) (by kernel_rfl) (by kernel_rfl) (fun _ _ _ h => h) (Or.inr ⟨by rfl, rfl⟩) (by assumption) ?_
    try simp only [Act.put, List.setIfInBounds_toArray, List.set_cons_zero, List.set_cons_succ]
    refine wpAnyH_take (i := 9) (oi := { dst := some 95, op := Op.pick (Operand.tmp 88) (Operand.tmp 94) (Operand.const (Value.bool false)), type := 4, pos := "ref.go:49", after := #[{ on := 2, ground := Ground.data }, { on := 8, ground := Ground.data }, { on := 10, ground := Ground.gcOnly Departure.lateStores }], guard := none }) (v := ?v3) rfl (by kernel_rfl) (by kernel_rfl) (by kernel_rfl) (fun _ _ _ h => h) (Or.inl ⟨by rfl, ?hy3⟩) (by assumption) ?rest3
    case hy3 => ((intro w hSw; (try dsimp only at hSw); go_simp) <;> (with_reducible rfl))
    try simp only [Act.put, List.setIfInBounds_toArray, List.set_cons_zero, List.set_cons_succ]
    refine wpAnyH_ready (rs := [10]) (by kernel_rfl) (by simp) ?_
    refine (AllReadyH.cons (o := { dst := none, op := Op.store 40 (Operand.tmp 8) (Operand.tmp 86), type := 0, pos := "ref.go:49", after := #[{ on := 0, ground := Ground.data }, { on := 5, ground := Ground.chain }, { on := 0, ground := Ground.phase }, { on := 1, ground := Ground.textOnly Departure.lateStores }, { on := 2, ground := Ground.textOnly Departure.lateStores }, { on := 3, ground := Ground.textOnly Departure.lateStores }, { on := 4, ground := Ground.textOnly Departure.lateStoresUnsure }, { on := 5, ground := Ground.textOnly Departure.lateStores }, { on := 6, ground := Ground.textOnly Departure.lateStores }, { on := 7, ground := Ground.textOnly Departure.lateStores }, { on := 8, ground := Ground.textOnly Departure.lateStores }, { on := 9, ground := Ground.textOnly Departure.lateStores }], guard := none }) rfl (fun K hK => ?_) AllReadyH.nil)
    go_simp
    refine hK.out _ _ ?_ (fun hHeld => ?_)
    · (try dsimp only)
      first | with_reducible exact ⟨y0, y1, y2, y3⟩ | exact (HQd.out.far4 (by omega)).cell
    clear hK K
    try simp only [Act.put, List.setIfInBounds_toArray, List.set_cons_zero, List.set_cons_succ]
    refine wpAnyH_take (i := 11) (oi := { dst := some 9, op := Op.assign (Operand.tmp 95), type := 4, pos := "ref.go:49", after := #[{ on := 9, ground := Ground.data }, { on := 10, ground := Ground.chain }, { on := 0, ground := Ground.phase }, { on := 1, ground := Ground.phase }, { on := 2, ground := Ground.phase }, { on := 3, ground := Ground.phase }, { on := 4, ground := Ground.phase }, { on := 5, ground := Ground.phase }, { on := 6, ground := Ground.phase }, { on := 7, ground := Ground.phase }, { on := 8, ground := Ground.phase }, { on := 9, ground := Ground.phase }, { on := 10, ground := Ground.phase }], guard := none }) (v := ?v4) rfl (by kernel_rfl) (by kernel_rfl) (by kernel_rfl) (fun _ _ _ h => h) (Or.inl ⟨by rfl, ?hy4⟩) (by assumption) ?rest4
    case hy4 => ((intro w hSw; (try dsimp only at hSw); go_simp) <;> (with_reducible rfl))
    try simp only [Act.put, List.setIfInBounds_toArray, List.set_cons_zero, List.set_cons_succ]
    refine wpAnyH_done (by kernel_rfl) ?_ _
    refine NoPanic.normal ?_
    show K1 _ _
    refine hK1 _ _ ?_
    go_wp2
    exact bodyPost_ret (results_bd rfl _ _ _ offB _ rfl (HGd.out.put4 offB) rfl) rfl ⟨rfl, HB8.out _ HBd.out _ _ _ _⟩
  · rcases z with _ | _
    · skip
      go_enter Try.func32, Try.ntmps32
      go_wp2_with fail
      generalize (((w.alloc (.cells (netCells Ab An As Ar cb cn cs cr N) 29)).alloc (.cells #[.int .i64 cel, .int .i64 dst, .bool srv, .bool flt] 40)).alloc (.cells #[.int .i64 0, .int .i64 0, .bool false, .bool false] 40)) = w3 at *
      rename_i Q1 K1 hK1
      have HGd : Hid (BodAt w3.drew (w.heap.size + 1 + 1) zeroB) := Lib.hid HG.out
      have HQd : Hid (BodAt w3.drew (w.heap.size + 1) ⟨cel, dst, srv, flt⟩) := Lib.hid HQ.out
      have HBd : Hid (Below w.heap.size w w3.drew) := Lib.hid HB.out.drew
      obtain ⟨y0, y1, y2, y3⟩ := HQd.out.cell
      obtain ⟨z0, z1, z2, z3⟩ := HGd.out.cell
      have fq := HQd.out.frozen
      have fg := HGd.out.frozen
      obtain ⟨yy0, yy1, yy2, yy3⟩ := HQ.out.cell
      obtain ⟨zz0, zz1, zz2, zz3⟩ := HG.out.cell
      have fqq := HQ.out.frozen
      have fgg := HG.out.frozen
      clear HX hsz HG HQ HB
      refine wp_region_noPanic ?_
      refine wp_region_held_drew (S := fun W => W.cell? ⟨w.heap.size + 1, 0, none⟩ = some (.int .i64 cel) ∧ W.cell? ⟨w.heap.size + 1, 1, none⟩ = some (.int .i64 dst) ∧ W.cell? ⟨w.heap.size + 1, 2, none⟩ = some (.bool srv) ∧ W.cell? ⟨w.heap.size + 1, 3, none⟩ = some (.bool flt)) (by kernel_rfl) ⟨y0, y1, y2, y3⟩ (fun hHeld => ?_)
      refine wpAnyH_take (i := 0) (oi := { dst := some 86, op := Op.build 40 #[(0, Operand.const (Value.int IntKind.i64 (-1))), (1, Operand.const (Value.int IntKind.i64 (-1)))], type := 40, pos := "ref.go:49", after := #[], guard := none }) (v := ?v5) rfl (by kernel_rfl) (by kernel_rfl) (by kernel_rfl) (fun _ _ _ h => h) (Or.inl ⟨by rfl, ?hy5⟩) (by assumption) ?rest5
      case hy5 => ((intro w hSw; (try dsimp only at hSw); go_simp) <;> (with_reducible rfl))
      try simp only [Act.put, List.setIfInBounds_toArray, List.set_cons_zero, List.set_cons_succ]
      refine wpAnyH_take (i := 1) (oi := { dst := some 87, op := Op.move (Operand.tmp 10), type := 4, pos := "ref.go:49", after := #[], guard := none }) (v := ?v6) rfl (by kernel_rfl) (by kernel_rfl) (by kernel_rfl) (fun _ _ _ h => h) (Or.inl ⟨by rfl, ?hy6⟩) (by assumption) ?rest6
      case hy6 => ((intro w hSw; (try dsimp only at hSw); go_simp) <;> (with_reducible rfl))
      try simp only [Act.put, List.setIfInBounds_toArray, List.set_cons_zero, List.set_cons_succ]
      refine wpAnyH_take (i := 2) (oi := { dst := some 88, op := Op.move (Operand.tmp 87), type := 4, pos := "ref.go:49", after := #[{ on := 1, ground := Ground.data }], guard := none }) (v := ?v7) rfl (by kernel_rfl) (by kernel_rfl) (by kernel_rfl) (fun _ _ _ h => h) (Or.inl ⟨by rfl, ?hy7⟩) (by assumption) ?rest7
      case hy7 => ((intro w hSw; (try dsimp only at hSw); go_simp) <;> (with_reducible rfl))
      try simp only [Act.put, List.setIfInBounds_toArray, List.set_cons_zero, List.set_cons_succ]
      refine wpAnyH_take (i := 3) (oi := { dst := some 89, op := Op.load 40 (Operand.tmp 5), type := 40, pos := "ref.go:49", after := #[{ on := 2, ground := Ground.guard }], guard := some (2, true) }) (v := ?v8) rfl (by kernel_rfl) (by kernel_rfl) (by kernel_rfl) (fun _ _ _ h => h) (Or.inl ⟨by rfl, ?hy8⟩) (by assumption) ?rest8
      case hy8 => ((intro w hSw; (try dsimp only at hSw); go_simp) <;> (with_reducible rfl))
      try simp only [Act.put, List.setIfInBounds_toArray, List.set_cons_zero, List.set_cons_succ]
      refine wpAnyH_ready (rs := [4]) (by kernel_rfl) (by simp) ?_
      refine (AllReadyH.cons (o := { dst := some 90, op := Op.call { callee := Callee.value (Operand.func 52), args := #[Operand.tmp 89], argTypes := #[40] }, type := 4, pos := "ref.go:49", after := #[{ on := 3, ground := Ground.data }, { on := 2, ground := Ground.chain }, { on := 2, ground := Ground.guard }], guard := some (2, true) }) rfl (fun K hK => ?_) AllReadyH.nil)
      go_simp
      (go_at_call 52; refine (HR.out _).mono ?_; rintro e w4 ⟨rfl, hb4⟩; have HG4 := Lib.hid (HGd.out.keep hb4); have HQ4 := Lib.hid (HQd.out.keep hb4); have HB4 := Lib.hid (HBd.out.trans (hb4.mono HBd.out.size)); obtain ⟨y0, y1, y2, y3⟩ := HQ4.out.cell; obtain ⟨z0, z1, z2, z3⟩ := HG4.out.cell; have fq := HQ4.out.frozen; have fg := HG4.out.frozen; clear hb4)
      go_wp2_with fail
      refine hK.out _ _ ?_ (fun hHeld => ?_)
      · (try dsimp only)
        first | with_reducible exact ⟨y0, y1, y2, y3⟩ | exact (HQ4.out.far4 (by omega)).cell
      clear hK K
      try simp only [Act.put, List.setIfInBounds_toArray, List.set_cons_zero, List.set_cons_succ]
      refine wpAnyH_take (i := 5) (oi := { dst := some 91, op := Op.move (Operand.tmp 90), type := 4, pos := "ref.go:49", after := #[{ on := 4, ground := Ground.data }, { on := 4, ground := Ground.chain }, { on := 2, ground := Ground.guard }], guard := some (2, true) }) (v := ?v9) rfl (by kernel_rfl) (by kernel_rfl) (by kernel_rfl) (fun _ _ _ h => h) (Or.inl ⟨by rfl, ?hy9⟩) (by assumption) ?rest9
      case hy9 => ((intro w hSw; (try dsimp only at hSw); go_simp) <;> (with_reducible rfl))
      try simp only [Act.put, List.setIfInBounds_toArray, List.set_cons_zero, List.set_cons_succ]
      refine wpAnyH_take (i := 6) (oi := { dst := some 92, op := Op.fieldAddr 40 (Operand.tmp 5) 3, type := 0, pos := "ref.go:49", after := #[{ on := 5, ground := Ground.guard }, { on := 10, ground := Ground.gcOnly Departure.lateStores }], guard := some (5, false) }) (v := ?v10) rfl (by kernel_rfl) (by kernel_rfl) (by kernel_rfl) (fun _ _ _ h => h) (Or.inl ⟨by rfl, ?hy10⟩) (by assumption) ?rest10
      case hy10 => ((intro w hSw; (try dsimp only at hSw); go_simp) <;> (with_reducible rfl))
      try simp only [Act.put, List.setIfInBounds_toArray, List.set_cons_zero, List.set_cons_succ]
      refine wpAnyH_take (i := 7) (oi := { dst := some 93, op := Op.load 4 (Operand.tmp 92), type := 4, pos := "ref.go:49", after := #[{ on := 6, ground := Ground.data }, { on := 5, ground := Ground.guard }, { on := 10, ground := Ground.gcOnly Departure.lateStores }], guard := some (5, false) }) (v := ?v11) rfl (by kernel_rfl) (by kernel_rfl) (by kernel_rfl) (fun _ _ _ h => h) (Or.inl ⟨by rfl, ?hy11⟩) (by assumption) ?rest11
      case hy11 => ((intro w hSw; (try dsimp only at hSw); go_simp) <;> (with_reducible rfl))
      try simp only [Act.put, List.setIfInBounds_toArray, List.set_cons_zero, List.set_cons_succ]
      refine wpAnyH_take (i := 8) (oi := { dst := some 94, op := Op.pick (Operand.tmp 91) (Operand.const (Value.bool true)) (Operand.tmp 93), type := 4, pos := "ref.go:49", after := #[{ on := 5, ground := Ground.data }, { on := 7, ground := Ground.data }, { on := 2, ground := Ground.guard }, { on := 10, ground := Ground.gcOnly Departure.lateStores }], guard := some (2, true) }) (v := ?v12) rfl (by kernel_rfl) (by kernel_rfl) (by kernel_rfl) (fun _ _ _ h => h) (Or.inl ⟨by rfl, ?hy12⟩) (by assumption) ?rest12
      case hy12 => ((intro w hSw; (try dsimp only at hSw); go_simp) <;> (with_reducible rfl))
      try simp only [Act.put, List.setIfInBounds_toArray, List.set_cons_zero, List.set_cons_succ]
      refine wpAnyH_take (i := 9) (oi := { dst := some 95, op := Op.pick (Operand.tmp 88) (Operand.tmp 94) (Operand.const (Value.bool false)), type := 4, pos := "ref.go:49", after := #[{ on := 2, ground := Ground.data }, { on := 8, ground := Ground.data }, { on := 10, ground := Ground.gcOnly Departure.lateStores }], guard := none }) (v := ?v13) rfl (by kernel_rfl) (by kernel_rfl) (by kernel_rfl) (fun _ _ _ h => h) (Or.inl ⟨by rfl, ?hy13⟩) (by assumption) ?rest13
      case hy13 => ((intro w hSw; (try dsimp only at hSw); go_simp) <;> (with_reducible rfl))
      try simp only [Act.put, List.setIfInBounds_toArray, List.set_cons_zero, List.set_cons_succ]
      refine wpAnyH_ready (rs := [10]) (by kernel_rfl) (by simp) ?_
      refine (AllReadyH.cons (o := { dst := none, op := Op.store 40 (Operand.tmp 8) (Operand.tmp 86), type := 0, pos := "ref.go:49", after := #[{ on := 0, ground := Ground.data }, { on := 5, ground := Ground.chain }, { on := 0, ground := Ground.phase }, { on := 1, ground := Ground.textOnly Departure.lateStores }, { on := 2, ground := Ground.textOnly Departure.lateStores }, { on := 3, ground := Ground.textOnly Departure.lateStores }, { on := 4, ground := Ground.textOnly Departure.lateStoresUnsure }, { on := 5, ground := Ground.textOnly Departure.lateStores }, { on := 6, ground := Ground.textOnly Departure.lateStores }, { on := 7, ground := Ground.textOnly Departure.lateStores }, { on := 8, ground := Ground.textOnly Departure.lateStores }, { on := 9, ground := Ground.textOnly Departure.lateStores }], guard := none }) rfl (fun K hK => ?_) AllReadyH.nil)
      go_simp
      refine hK.out _ _ ?_ (fun hHeld => ?_)
      · (try dsimp only)
        first | with_reducible exact ⟨y0, y1, y2, y3⟩ | exact (HQ4.out.far4 (by omega)).cell
      clear hK K
      try simp only [Act.put, List.setIfInBounds_toArray, List.set_cons_zero, List.set_cons_succ]
      refine wpAnyH_take (i := 11) (oi := { dst := some 9, op := Op.assign (Operand.tmp 95), type := 4, pos := "ref.go:49", after := #[{ on := 9, ground := Ground.data }, { on := 10, ground := Ground.chain }, { on := 0, ground := Ground.phase }, { on := 1, ground := Ground.phase }, { on := 2, ground := Ground.phase }, { on := 3, ground := Ground.phase }, { on := 4, ground := Ground.phase }, { on := 5, ground := Ground.phase }, { on := 6, ground := Ground.phase }, { on := 7, ground := Ground.phase }, { on := 8, ground := Ground.phase }, { on := 9, ground := Ground.phase }, { on := 10, ground := Ground.phase }], guard := none }) (v := ?v14) rfl (by kernel_rfl) (by kernel_rfl) (by kernel_rfl) (fun _ _ _ h => h) (Or.inl ⟨by rfl, ?hy14⟩) (by assumption) ?rest14
      case hy14 => ((intro w hSw; (try dsimp only at hSw); go_simp) <;> (with_reducible rfl))
      try simp only [Act.put, List.setIfInBounds_toArray, List.set_cons_zero, List.set_cons_succ]
      refine wpAnyH_done (by kernel_rfl) ?_ _
      refine NoPanic.normal ?_
      show K1 _ _
      refine hK1 _ _ ?_
      go_wp2
      exact bodyPost_ret (results_bd rfl _ _ _ offB _ rfl (HG4.out.put4 offB) rfl) rfl ⟨rfl, HB8.out _ HB4.out _ _ _ _⟩
    · skip
      go_enter Try.func32, Try.ntmps32
      go_wp2_with fail
      generalize (((w.alloc (.cells (netCells Ab An As Ar cb cn cs cr N) 29)).alloc (.cells #[.int .i64 cel, .int .i64 dst, .bool srv, .bool flt] 40)).alloc (.cells #[.int .i64 0, .int .i64 0, .bool false, .bool false] 40)) = w3 at *
      rename_i Q1 K1 hK1
      have HGd : Hid (BodAt w3.drew (w.heap.size + 1 + 1) zeroB) := Lib.hid HG.out
      have HQd : Hid (BodAt w3.drew (w.heap.size + 1) ⟨cel, dst, srv, flt⟩) := Lib.hid HQ.out
      have HBd : Hid (Below w.heap.size w w3.drew) := Lib.hid HB.out.drew
      obtain ⟨y0, y1, y2, y3⟩ := HQd.out.cell
      obtain ⟨z0, z1, z2, z3⟩ := HGd.out.cell
      have fq := HQd.out.frozen
      have fg := HGd.out.frozen
      obtain ⟨yy0, yy1, yy2, yy3⟩ := HQ.out.cell
      obtain ⟨zz0, zz1, zz2, zz3⟩ := HG.out.cell
      have fqq := HQ.out.frozen
      have fgg := HG.out.frozen
      clear HX hsz HG HQ HB
      refine wp_region_noPanic ?_
      refine wp_region_held_drew (S := fun W => W.cell? ⟨w.heap.size + 1, 0, none⟩ = some (.int .i64 cel) ∧ W.cell? ⟨w.heap.size + 1, 1, none⟩ = some (.int .i64 dst) ∧ W.cell? ⟨w.heap.size + 1, 2, none⟩ = some (.bool srv) ∧ W.cell? ⟨w.heap.size + 1, 3, none⟩ = some (.bool flt)) (by kernel_rfl) ⟨y0, y1, y2, y3⟩ (fun hHeld => ?_)
      refine wpAnyH_take (i := 0) (oi := { dst := some 86, op := Op.build 40 #[(0, Operand.const (Value.int IntKind.i64 (-1))), (1, Operand.const (Value.int IntKind.i64 (-1)))], type := 40, pos := "ref.go:49", after := #[], guard := none }) (v := ?v15) rfl (by kernel_rfl) (by kernel_rfl) (by kernel_rfl) (fun _ _ _ h => h) (Or.inl ⟨by rfl, ?hy15⟩) (by assumption) ?rest15
      case hy15 => ((intro w hSw; (try dsimp only at hSw); go_simp) <;> (with_reducible rfl))
      try simp only [Act.put, List.setIfInBounds_toArray, List.set_cons_zero, List.set_cons_succ]
      refine wpAnyH_take (i := 1) (oi := { dst := some 87, op := Op.move (Operand.tmp 10), type := 4, pos := "ref.go:49", after := #[], guard := none }) (v := ?v16) rfl (by kernel_rfl) (by kernel_rfl) (by kernel_rfl) (fun _ _ _ h => h) (Or.inl ⟨by rfl, ?hy16⟩) (by assumption) ?rest16
      case hy16 => ((intro w hSw; (try dsimp only at hSw); go_simp) <;> (with_reducible rfl))
      try simp only [Act.put, List.setIfInBounds_toArray, List.set_cons_zero, List.set_cons_succ]
      refine wpAnyH_take (i := 2) (oi := { dst := some 88, op := Op.move (Operand.tmp 87), type := 4, pos := "ref.go:49", after := #[{ on := 1, ground := Ground.data }], guard := none }) (v := ?v17) rfl (by kernel_rfl) (by kernel_rfl) (by kernel_rfl) (fun _ _ _ h => h) (Or.inl ⟨by rfl, ?hy17⟩) (by assumption) ?rest17
      case hy17 => ((intro w hSw; (try dsimp only at hSw); go_simp) <;> (with_reducible rfl))
      try simp only [Act.put, List.setIfInBounds_toArray, List.set_cons_zero, List.set_cons_succ]
      refine wpAnyH_take (i := 3) (oi := { dst := some 89, op := Op.load 40 (Operand.tmp 5), type := 40, pos := "ref.go:49", after := #[{ on := 2, ground := Ground.guard }], guard := some (2, true) }) (v := ?v18) rfl (by kernel_rfl) (by kernel_rfl) (by kernel_rfl) (fun _ _ _ h => h) (Or.inl ⟨by rfl, ?hy18⟩) (by assumption) ?rest18
      case hy18 => ((intro w hSw; (try dsimp only at hSw); go_simp) <;> (with_reducible rfl))
      try simp only [Act.put, List.setIfInBounds_toArray, List.set_cons_zero, List.set_cons_succ]
      refine wpAnyH_ready (rs := [4]) (by kernel_rfl) (by simp) ?_
      refine (AllReadyH.cons (o := { dst := some 90, op := Op.call { callee := Callee.value (Operand.func 52), args := #[Operand.tmp 89], argTypes := #[40] }, type := 4, pos := "ref.go:49", after := #[{ on := 3, ground := Ground.data }, { on := 2, ground := Ground.chain }, { on := 2, ground := Ground.guard }], guard := some (2, true) }) rfl (fun K hK => ?_) AllReadyH.nil)
      go_simp
      (go_at_call 52; refine (HR.out _).mono ?_; rintro e w4 ⟨rfl, hb4⟩; have HG4 := Lib.hid (HGd.out.keep hb4); have HQ4 := Lib.hid (HQd.out.keep hb4); have HB4 := Lib.hid (HBd.out.trans (hb4.mono HBd.out.size)); obtain ⟨y0, y1, y2, y3⟩ := HQ4.out.cell; obtain ⟨z0, z1, z2, z3⟩ := HG4.out.cell; have fq := HQ4.out.frozen; have fg := HG4.out.frozen; clear hb4)
      go_wp2_with fail
      refine hK.out _ _ ?_ (fun hHeld => ?_)
      · (try dsimp only)
        first | with_reducible exact ⟨y0, y1, y2, y3⟩ | exact (HQ4.out.far4 (by omega)).cell
      clear hK K
      try simp only [Act.put, List.setIfInBounds_toArray, List.set_cons_zero, List.set_cons_succ]
      refine wpAnyH_take (i := 5) (oi := { dst := some 91, op := Op.move (Operand.tmp 90), type := 4, pos := "ref.go:49", after := #[{ on := 4, ground := Ground.data }, { on := 4, ground := Ground.chain }, { on := 2, ground := Ground.guard }], guard := some (2, true) }) (v := ?v19) rfl (by kernel_rfl) (by kernel_rfl) (by kernel_rfl) (fun _ _ _ h => h) (Or.inl ⟨by rfl, ?hy19⟩) (by assumption) ?rest19
      case hy19 => ((intro w hSw; (try dsimp only at hSw); go_simp) <;> (with_reducible rfl))
      try simp only [Act.put, List.setIfInBounds_toArray, List.set_cons_zero, List.set_cons_succ]
      refine wpAnyH_take (i := 6) (oi := { dst := some 92, op := Op.fieldAddr 40 (Operand.tmp 5) 3, type := 0, pos := "ref.go:49", after := #[{ on := 5, ground := Ground.guard }, { on := 10, ground := Ground.gcOnly Departure.lateStores }], guard := some (5, false) }) (v := undef) rfl (by kernel_rfl) (by kernel_rfl) (by kernel_rfl) (fun _ _ _ h => h) (Or.inr ⟨by rfl, rfl⟩) (by assumption) ?_
      try simp only [Act.put, List.setIfInBounds_toArray, List.set_cons_zero, List.set_cons_succ]
      refine wpAnyH_take (i := 7) (oi := { dst := some 93, op := Op.load 4 (Operand.tmp 92), type := 4, pos := "ref.go:49", after := #[{ on := 6, ground := Ground.data }, { on := 5, ground := Ground.guard }, { on := 10, ground := Ground.gcOnly Departure.lateStores }], guard := some (5, false) }) (v := undef) rfl (by kernel_rfl) (by kernel_rfl) (by kernel_rfl) (fun _ _ _ h => h) (Or.inr ⟨by rfl, rfl⟩) (by assumption) ?_
      try simp only [Act.put, List.setIfInBounds_toArray, List.set_cons_zero, List.set_cons_succ]
      refine wpAnyH_take (i := 8) (oi := { dst := some 94, op := Op.pick (Operand.tmp 91) (Operand.const (Value.bool true)) (Operand.tmp 93), type := 4, pos := "ref.go:49", after := #[{ on := 5, ground := Ground.data }, { on := 7, ground := Ground.data }, { on := 2, ground := Ground.guard }, { on := 10, ground := Ground.gcOnly Departure.lateStores }], guard := some (2, true) }) (v := ?v20) rfl (by kernel_rfl) (by kernel_rfl) (by kernel_rfl) (fun _ _ _ h => h) (Or.inl ⟨by rfl, ?hy20⟩) (by assumption) ?rest20
      case hy20 => ((intro w hSw; (try dsimp only at hSw); go_simp) <;> (with_reducible rfl))
      try simp only [Act.put, List.setIfInBounds_toArray, List.set_cons_zero, List.set_cons_succ]
      refine wpAnyH_take (i := 9) (oi := { dst := some 95, op := Op.pick (Operand.tmp 88) (Operand.tmp 94) (Operand.const (Value.bool false)), type := 4, pos := "ref.go:49", after := #[{ on := 2, ground := Ground.data }, { on := 8, ground := Ground.data }, { on := 10, ground := Ground.gcOnly Departure.lateStores }], guard := none }) (v := ?v21) rfl (by kernel_rfl) (by kernel_rfl) (by kernel_rfl) (fun _ _ _ h => h) (Or.inl ⟨by rfl, ?hy21⟩) (by assumption) ?rest21
      case hy21 => ((intro w hSw; (try dsimp only at hSw); go_simp) <;> (with_reducible rfl))
      try simp only [Act.put, List.setIfInBounds_toArray, List.set_cons_zero, List.set_cons_succ]
      refine wpAnyH_ready (rs := [10]) (by kernel_rfl) (by simp) ?_
      refine (AllReadyH.cons (o := { dst := none, op := Op.store 40 (Operand.tmp 8) (Operand.tmp 86), type := 0, pos := "ref.go:49", after := #[{ on := 0, ground := Ground.data }, { on := 5, ground := Ground.chain }, { on := 0, ground := Ground.phase }, { on := 1, ground := Ground.textOnly Departure.lateStores }, { on := 2, ground := Ground.textOnly Departure.lateStores }, { on := 3, ground := Ground.textOnly Departure.lateStores }, { on := 4, ground := Ground.textOnly Departure.lateStoresUnsure }, { on := 5, ground := Ground.textOnly Departure.lateStores }, { on := 6, ground := Ground.textOnly Departure.lateStores }, { on := 7, ground := Ground.textOnly Departure.lateStores }, { on := 8, ground := Ground.textOnly Departure.lateStores }, { on := 9, ground := Ground.textOnly Departure.lateStores }], guard := none }) rfl (fun K hK => ?_) AllReadyH.nil)
      go_simp
      refine hK.out _ _ ?_ (fun hHeld => ?_)
      · (try dsimp only)
        first | with_reducible exact ⟨y0, y1, y2, y3⟩ | exact (HQ4.out.far4 (by omega)).cell
      clear hK K
      try simp only [Act.put, List.setIfInBounds_toArray, List.set_cons_zero, List.set_cons_succ]
      refine wpAnyH_take (i := 11) (oi := { dst := some 9, op := Op.assign (Operand.tmp 95), type := 4, pos := "ref.go:49", after := #[{ on := 9, ground := Ground.data }, { on := 10, ground := Ground.chain }, { on := 0, ground := Ground.phase }, { on := 1, ground := Ground.phase }, { on := 2, ground := Ground.phase }, { on := 3, ground := Ground.phase }, { on := 4, ground := Ground.phase }, { on := 5, ground := Ground.phase }, { on := 6, ground := Ground.phase }, { on := 7, ground := Ground.phase }, { on := 8, ground := Ground.phase }, { on := 9, ground := Ground.phase }, { on := 10, ground := Ground.phase }], guard := none }) (v := ?v22) rfl (by kernel_rfl) (by kernel_rfl) (by kernel_rfl) (fun _ _ _ h => h) (Or.inl ⟨by rfl, ?hy22⟩) (by assumption) ?rest22
      case hy22 => ((intro w hSw; (try dsimp only at hSw); go_simp) <;> (with_reducible rfl))
      try simp only [Act.put, List.setIfInBounds_toArray, List.set_cons_zero, List.set_cons_succ]
      refine wpAnyH_done (by kernel_rfl) ?_ _
      refine NoPanic.normal ?_
      show K1 _ _
      refine hK1 _ _ ?_
      go_wp2
      exact bodyPost_ret (results_bd rfl _ _ _ offB _ rfl (HG4.out.put4 offB) rfl) rfl ⟨rfl, HB8.out _ HB4.out _ _ _ _⟩
end Go.Proofs.Ytjbhmeeebacnpaa
