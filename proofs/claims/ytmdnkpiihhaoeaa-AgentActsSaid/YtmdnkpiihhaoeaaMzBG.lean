/- Joined texts. -/
import Derived.Test.YtmdnkpiihhaoeaaMzAD
import Derived.Test.YtmdnkpiihhaoeaaMzAG
import Derived.Test.YtmdnkpiihhaoeaaMzAQ
import Derived.Test.YtmdnkpiihhaoeaaMzAR
import Derived.Test.YtmdnkpiihhaoeaaMzBB
import Derived.Test.YtmdnkpiihhaoeaaMzAX
import Derived.Test.YtmdnkpiihhaoeaaMzBC
import Derived.Test.YtmdnkpiihhaoeaaMzBA
import Derived.Test.YtmdnkpiihhaoeaaMzAV
import Derived.Test.YtmdnkpiihhaoeaaMzBF
import Derived.Deep.RegionHeld3
import Derived.Deep.DeepCutAuto
namespace Go.Proofs.Ytmdnkpiihhaoeaa
open Go Go.RowKit Fl

section
variable {w wr w' : World} {B gt T G0 base top : Nat} {N : NetD} {Ab An As Ar : Option Addr} {cb cn cs cr : Nat}
theorem NM.rebase (h : NM w B gt T G0 base top N Ab An As Ar cb cn cs cr wr) {T' : Nat} (ht : TapeOk w' B gt T') (hz : wr.heap.size ≤ w'.heap.size) (hb : ∀ k, base ≤ k → k < wr.heap.size → w'.heap[k]? = wr.heap[k]?) : NM w' B gt T' G0 base top N Ab An As Ar cb cn cs cr w' := by
  obtain ⟨o1, o2, o3, o4⟩ := h.ord
  exact ⟨ht, ownN_to h.blocks fun k hk hlt => hb k (ownN_type h.blocks hk).2 hlt, h.next.keep fun k hk hlt _ => hb k hk hlt, ownN_to h.spurs fun k hk hlt => hb k (ownN_type h.spurs hk).2 hlt, ownN_to h.robots fun k hk hlt => hb k (Nat.le_trans o3 (ownN_type h.robots hk).2) hlt, Still.refl _ _ _, Nat.le_trans h.size hz, h.ord⟩
end
theorem NetOk.len {N : NetD} (h : NetOk N) : NetLen N :=
  ⟨by have := h.few; omega, by have := h.few; rw [h.lanes]; omega, fun r hr => by have := h.outs r hr; omega, by have := h.spurs6; omega, by have := h.robots8; omega, fun s hs => by have := name_short (h.named s hs); unfold maxLen; omega⟩
theorem set2_cells {W : World} {g : Nat} {a0 a1 v0 v1 : Value} {t : TypeId} (h : W.heap[g]? = some (.cells #[a0, a1] t (0, 0))) : ((W.setCell ⟨g, 0, none⟩ v0).setCell ⟨g, 1, none⟩ v1).heap[g]? = some (.cells #[v0, v1] t (0, 0)) := by
  have e0 := set1_at (i := 0) (v := v0) h
  have e0' : _ = some (Obj.cells #[v0, a1] t (0, 0)) := e0
  have e1 := set1_at (i := 1) (v := v1) e0'
  have e1' : _ = some (Obj.cells #[v0, v1] t (0, 0)) := e1
  exact e1'
theorem two_c {w : World} {Y : Nat} {a b : Value} {t : TypeId} (h : w.heap[Y]? = some (.cells #[a, b] t (0, 0))) : w.cell? ⟨Y, 0, none⟩ = some a ∧ w.cell? ⟨Y, 1, none⟩ = some b :=
  ⟨by rw [cell_of_row w Y 0 _ _ _ h]; rfl, by rw [cell_of_row w Y 1 _ _ _ h]; rfl⟩
theorem set3_cells {W : World} {g : Nat} {a0 a1 a2 v0 v1 v2 : Value} {t : TypeId} (h : W.heap[g]? = some (.cells #[a0, a1, a2] t (0, 0))) : (((W.setCell ⟨g, 0, none⟩ v0).setCell ⟨g, 1, none⟩ v1).setCell ⟨g, 2, none⟩ v2).heap[g]? = some (.cells #[v0, v1, v2] t (0, 0)) := by
  have e0 : _ = some (Obj.cells #[v0, a1, a2] t (0, 0)) := set1_at (i := 0) (v := v0) h
  have e1 : _ = some (Obj.cells #[v0, v1, a2] t (0, 0)) := set1_at (i := 1) (v := v1) e0
  have e2 : _ = some (Obj.cells #[v0, v1, v2] t (0, 0)) := set1_at (i := 2) (v := v2) e1
  exact e2
theorem three_c {w : World} {Y : Nat} {a b c : Value} {t : TypeId} (h : w.heap[Y]? = some (.cells #[a, b, c] t (0, 0))) : w.cell? ⟨Y, 0, none⟩ = some a ∧ w.cell? ⟨Y, 1, none⟩ = some b ∧ w.cell? ⟨Y, 2, none⟩ = some c :=
  ⟨by rw [cell_of_row w Y 0 _ _ _ h]; rfl, by rw [cell_of_row w Y 1 _ _ _ h]; rfl, by rw [cell_of_row w Y 2 _ _ _ h]; rfl⟩
/-- Numbers are taken from the tape, and nothing else is written. -/
structure KX (B gt : Nat) (w0 : World) (T : Nat) (W : World) : Prop where
  tape : TapeOk W B gt T
  grown : w0.grownBy W (some gt)
theorem KX.drew {B gt T : Nat} {w0 W : World} (h : KX B gt w0 T W) : KX B gt w0 T W.drew :=
  ⟨h.tape.keep (Below.refl _ _).drew, ⟨h.grown.os, h.grown.tape, h.grown.output, h.grown.size, h.grown.block⟩⟩
theorem KX.next {B gt : Nat} {w0 : World} (T : Nat) (n : Int) (W : World) (h : KX B gt w0 T W) (hT : T ≤ 100000) (h1 : 1 ≤ n) (hn : n ≤ 1000000) : Calls Try.prog 11 #[.pointer (some ⟨gt, 0, none⟩), .int .i64 n] W fun e w' => ∃ r : Nat, (r : Int) < n ∧ e = .returned (.int .i64 r) ∧ KX B gt w0 (T + 1) w' := by
  refine (next_c B gt T n W h.tape (by omega) h1 hn).mono ?_
  rintro e w' ⟨r, hr, rfl, ht, hg⟩
  exact ⟨r, hr, rfl, ht, grown_trans h.grown hg⟩
/-- What a block holds. -/
def HeapIs (W : World) (k : Nat) (o : Obj) : Prop := W.heap[k]? = some o
theorem HeapIs.drew {W : World} {k : Nat} {o : Obj} (h : HeapIs W k o) : HeapIs W.drew k o := h
theorem HeapIs.set {W : World} {k X i : Nat} {o : Obj} {v : Value} (h : HeapIs W k o) (hX : X ≠ k) : HeapIs (W.setCell ⟨X, i, none⟩ v) k o := (Below.heap_setCell W ⟨X, i, none⟩ v k (fun e => hX e.symm)).trans h
theorem KX.is {B gt T k : Nat} {w0 W : World} {o : Obj} (h : KX B gt w0 T W) (ho : w0.heap[k]? = some o) (hk : k ≠ gt) : HeapIs W k o := (h.grown.block k (block_lt ho) (fun e => by injection e with e; exact hk e)).trans ho
/-- A contract, met in a later world. -/
theorem laterC {f : FuncId} {args : Array Value} {r : Ending} {W0 : World} (h : ∀ W, Below W0.heap.size W0 W → Calls Try.prog f args W fun e w' => e = r ∧ Below W.heap.size W w') :
    ∀ W, Below W0.heap.size W0 W → Calls Try.prog f args W fun e w' => e = r ∧ Below W0.heap.size W0 w' :=
  fun W hW => (h W hW).mono fun _ _ hh => ⟨hh.1, hW.trans (hh.2.mono hW.size)⟩
end Go.Proofs.Ytmdnkpiihhaoeaa
namespace Go.Proofs.Ytmdnkpiihhaoeaa
open Go Go.RowKit Fl

/-- Both calls answer the same; what follows is a cell. -/
theorem follows_pair2 (Ab An As Ar : Option Addr) (cb cn cs cr : Nat) (N : NetD) (c z : Int) (w : World) (hN : NetAt w Ab An As Ar N) (hl : NetLen N) (hcr : N.robots.length ≤ cr) :
    ∃ res : Bool, (res = true → 0 ≤ z ∧ z < 48) ∧ (∀ W, Below w.heap.size w W → Calls Try.prog 24 #[.agg #[.slice Ab N.blocks.length cb, .slice An N.next.length cn, .slice As N.spurs.length cs, .slice Ar N.robots.length cr, Iv N.queue, Iv N.aging, Iv N.detours, Iv N.patience], .int .i64 c, .int .i64 z] W fun e w' => e = .returned (.bool res) ∧ Below W.heap.size W w') ∧ (∀ W, Below w.heap.size w W → Calls Try.prog 40 #[.agg #[.slice Ab N.blocks.length cb, .slice An N.next.length cn, .slice As N.spurs.length cs, .slice Ar N.robots.length cr, Iv N.queue, Iv N.aging, Iv N.detours, Iv N.patience], .int .i64 c, .int .i64 z] W fun e w' => e = .returned (.bool res) ∧ Below W.heap.size W w') := by
  by_cases h1 : cellE N c = 0
  · obtain ⟨hok, hin⟩ := cellE_zero h1
    obtain ⟨xs, hx, hx24, hxin⟩ := hok.nextIs hin
    refine ⟨decide (z ∈ xs), fun h => ?_, fun W hW => follows_c Ab An As Ar cb cn cs cr N c z xs W hx24 (fun W2 hW2 => devNextIs_c Ab An As Ar cb cn cs cr N c xs W2 ((hN.keep hW).keep hW2) hok hcr hx), fun W hW => refFollows_c Ab An As Ar cb cn cs cr N c z W (hN.keep hW) hl hcr _ ?_⟩
    · obtain ⟨n, hn, _, hn48⟩ := hok.count
      obtain ⟨k1, k2⟩ := hxin z (of_decide_eq_true h)
      omega
    · by_cases h2 : cellE N z = 0
      · exact .inr (.inr ⟨h1, h2, xs, hx, hx24, rfl⟩)
      · exact .inr (.inl ⟨h1, h2, decide_eq_false (fun h => h2 (cellE_ok hok (hxin z h)))⟩)
  · exact ⟨false, fun h => Bool.noConfusion h, fun W hW => follows_bad Ab An As Ar cb cn cs cr N c z W (hN.keep hW) hl hcr h1, fun W hW => refFollows_c Ab An As Ar cb cn cs cr N c z W (hN.keep hW) hl hcr _ (.inl ⟨h1, rfl⟩)⟩
/-- What the landed cells says of a cell of a valid network, or of none. -/
theorem nextMade2 (Ab An As Ar : Option Addr) (cb cn cs cr : Nat) (N : NetD) (c : Int) (w : World) (hN : NetAt w Ab An As Ar N) (hok : NetOk N) (hl : NetLen N) (hcr : N.robots.length ≤ cr) :
    ∃ (xs : List Int) (er : Int), xs.length ≤ 24 ∧ ∀ W, Below w.heap.size w W → Calls Try.prog 12 #[.agg #[.slice Ab N.blocks.length cb, .slice An N.next.length cn, .slice As N.spurs.length cs, .slice Ar N.robots.length cr, Iv N.queue, Iv N.aging, Iv N.detours, Iv N.patience], .int .i64 c] W fun e w' => ∃ u, e = .returned (.tuple #[u, .int .i64 er]) ∧ w'.ownsRow W.heap.size 3 1 u xs.length (xs.map Iv) ∧ Below W.heap.size W w' := by
  by_cases h1 : cellE N c = 0
  · obtain ⟨_, hin⟩ := cellE_zero h1
    obtain ⟨xs, hx, hx24, hxin⟩ := hok.nextIs hin
    refine ⟨xs, 0, hx24, fun W hW => (devNextIs_c Ab An As Ar cb cn cs cr N c xs W (hN.keep hW) hok hcr hx).mono fun e w' h => ?_⟩
    exact h
  · exact ⟨[], cellE N c, by simp, fun W hW => (next_bad Ab An As Ar cb cn cs cr c N W (hN.keep hW) hl hcr h1).mono fun e w' h => ⟨_, h.1, World.ownsRow_nil _ _ _ _, h.2⟩⟩
/-- A row is not touched by what writes into a block below it. -/
theorem own_farI {w w' : World} {base X k n : Nat} {e : TypeId} {v : Value} {xs : List Value} (h : w.ownsRow base e k v n xs) (hg : w.grownBy w' (some X)) (hX : X < base) : w'.ownsRow base e k v n xs := by
  obtain ⟨h1, hr⟩ := h
  refine ⟨h1, ?_⟩
  rcases hr with hr | ⟨g, cap, cur, hv, hgb, hh, hrest⟩
  · exact .inl hr
  · exact .inr ⟨g, cap, cur, hv, hgb, (hg.block g (block_lt hh) (fun e => by injection e with e; omega)).trans hh, hrest⟩
theorem hearL_len (r : Int) (f : FrD) : (hearL r f).length ≤ 1 := by unfold hearL; split <;> simp
theorem againL_len (a : AgtD) (r : Int) (b : BodD) : (againL a r b).length ≤ 1 := by unfold againL; split <;> simp
theorem driveL_len (a : AgtD) (r : Int) (b : BodD) : (driveL a r b).length ≤ 1 := by unfold driveL; split <;> simp
theorem finL_len (a : AgtD) (r : Int) (b : BodD) : (finL a r b).length ≤ 1 := by unfold finL; split <;> simp
/-- A made network (as it was made in wN) in the first box, an agent, a body and a frame in the next ones, the tape. -/
structure PB (w wN : World) (gt T0 T GG base top : Nat) (N : NetD) (Ab An As Ar : Option Addr) (cb cn cs cr : Nat) (a : AgtD) (b : BodD) (f : FrD) (wr : World) : Prop where
  nm : NM wN w.heap.size gt T0 GG base top N Ab An As Ar cb cn cs cr wN
  same : ∀ k, base ≤ k → k < wN.heap.size → wr.heap[k]? = wN.heap[k]?
  size : wN.heap.size ≤ wr.heap.size
  tape : TapeOk wr w.heap.size gt T
  box : wr.heap[w.heap.size]? = some (.cells (netCells Ab An As Ar cb cn cs cr N) 29 (0, 0))
  ag : AgAt wr (w.heap.size + 1) a
  bd : BodAt wr (w.heap.size + 1 + 1) b
  fr : FrAt wr (w.heap.size + 1 + 1 + 1) f
  below : Below w.heap.size w wr
  ord : w.heap.size + 3 < gt ∧ gt < wN.heap.size
section
variable {w wN wr w' : World} {gt T0 T T' GG base top : Nat} {N : NetD} {Ab An As Ar : Option Addr} {cb cn cs cr : Nat} {a a' : AgtD} {b b' : BodD} {f f' : FrD}
theorem PB.at_ (h : PB w wN gt T0 T GG base top N Ab An As Ar cb cn cs cr a b f wr) : NetAt wr Ab An As Ar N := (h.nm.rebase h.tape h.size h.same).at_
theorem PB.next (h : PB w wN gt T0 T GG base top N Ab An As Ar cb cn cs cr a b f wr) (ht : TapeOk w' w.heap.size gt T') (hg : wr.grownBy w' (some gt)) : PB w wN gt T0 T' GG base top N Ab An As Ar cb cn cs cr a b f w' := by
  have ho := h.ord
  have h0 := h.nm.ord
  have hl := h.size
  exact ⟨h.nm, fun k hk hlt => (hg.block k (by omega) (fun e => by injection e with e; omega)).trans (h.same k hk hlt), Nat.le_trans hl hg.size, ht, (hg.block _ (by omega) (fun e => by injection e with e; omega)).trans h.box, h.ag.grown hg (fun e => by injection e with e; omega), BodAt.grown h.bd hg (fun e => by injection e with e; omega), h.fr.grown hg (fun e => by injection e with e; omega), h.below.grown hg (by omega) (fun k hk => by injection hk with hk; omega), ho⟩
theorem PB.keep (h : PB w wN gt T0 T GG base top N Ab An As Ar cb cn cs cr a b f wr) (hb : Below wr.heap.size wr w') : PB w wN gt T0 T GG base top N Ab An As Ar cb cn cs cr a b f w' := by
  have ho := h.ord
  have hl := h.size
  exact ⟨h.nm, fun k hk hlt => (hb.block k (by omega)).trans (h.same k hk hlt), Nat.le_trans hl hb.size, h.tape.keep hb, (hb.block _ (by omega)).trans h.box, h.ag.keep hb, h.bd.keep hb, h.fr.keep hb, h.below.trans (hb.mono (by omega)), ho⟩
theorem PB.more (h : PB w wN gt T0 T GG base top N Ab An As Ar cb cn cs cr a b f wr) (hT : T ≤ T') : PB w wN gt T0 T' GG base top N Ab An As Ar cb cn cs cr a b f wr := ⟨h.nm, h.same, h.size, h.tape.more hT, h.box, h.ag, h.bd, h.fr, h.below, h.ord⟩
/-- One of the boxes behind the first one is written. -/
theorem PB.set {X : Nat} (h : PB w wN gt T0 T GG base top N Ab An As Ar cb cn cs cr a b f wr) (hg : wr.grownBy w' (some X)) (h1 : w.heap.size < X) (h2 : X < gt) (ha : AgAt w' (w.heap.size + 1) a') (hb : BodAt w' (w.heap.size + 1 + 1) b') (hf : FrAt w' (w.heap.size + 1 + 1 + 1) f') : PB w wN gt T0 T GG base top N Ab An As Ar cb cn cs cr a' b' f' w' := by
  have ho := h.ord
  have h0 := h.nm.ord
  have hl := h.size
  exact ⟨h.nm, fun k hk hlt => (hg.block k (by omega) (fun e => by injection e with e; omega)).trans (h.same k hk hlt), Nat.le_trans hl hg.size, h.tape.grown hg (fun e => by injection e with e; omega) (fun k hk => by injection hk with hk; omega), (hg.block _ (by omega) (fun e => by injection e with e; omega)).trans h.box, ha, hb, hf, h.below.grown hg (by omega) (fun k hk => by injection hk with hk; omega), ho⟩
theorem PB.setA (h : PB w wN gt T0 T GG base top N Ab An As Ar cb cn cs cr a b f wr) (a' : AgtD) : PB w wN gt T0 T GG base top N Ab An As Ar cb cn cs cr a' b f (put5A wr (w.heap.size + 1) a') := by
  have ho := h.ord
  have hg := put5A_grown wr (w.heap.size + 1) a'
  exact h.set hg (by omega) (by omega) (h.ag.put5 a') (BodAt.grown h.bd hg (fun e => by injection e with e; omega)) (h.fr.grown hg (fun e => by injection e with e; omega))
theorem PB.setB (h : PB w wN gt T0 T GG base top N Ab An As Ar cb cn cs cr a b f wr) (b' : BodD) : PB w wN gt T0 T GG base top N Ab An As Ar cb cn cs cr a b' f (put4B wr (w.heap.size + 1 + 1) b') := by
  have ho := h.ord
  have hg := put4B_grown wr (w.heap.size + 1 + 1) b'
  exact h.set hg (by omega) (by omega) (h.ag.grown hg (fun e => by injection e with e; omega)) (h.bd.put4 b') (h.fr.grown hg (fun e => by injection e with e; omega))
theorem PB.setF (h : PB w wN gt T0 T GG base top N Ab An As Ar cb cn cs cr a b f wr) (f' : FrD) : PB w wN gt T0 T GG base top N Ab An As Ar cb cn cs cr a b f' (put5W wr (w.heap.size + 1 + 1 + 1) f') := by
  have ho := h.ord
  have hg := put5_grown wr (w.heap.size + 1 + 1 + 1) f'
  exact h.set hg (by omega) (by omega) (h.ag.grown hg (fun e => by injection e with e; omega)) (BodAt.grown h.bd hg (fun e => by injection e with e; omega)) (h.fr.put5 f')
theorem PB.set1 (h : PB w wN gt T0 T GG base top N Ab An As Ar cb cn cs cr a b f wr) (v : Int) : PB w wN gt T0 T GG base top N Ab An As Ar cb cn cs cr ⟨a.las, v, a.srv, a.rpt, a.cel⟩ b f (wr.setCell ⟨w.heap.size + 1, 1, none⟩ (.int .i64 v)) := by
  have ho := h.ord
  have hg := one_grown wr (w.heap.size + 1) 1 (.int .i64 v)
  obtain ⟨las, dst, srv, rpt, cel⟩ := a
  exact h.set hg (by omega) (by omega) h.ag.put1 (BodAt.grown h.bd hg (fun e => by injection e with e; omega)) (h.fr.grown hg (fun e => by injection e with e; omega))
end
theorem FrAt.frozenAllA {w : World} {b : Nat} {f : FrD} (h : FrAt w b f) (i : Nat) : w.frozen? ⟨b, i, none⟩ = false := by
  unfold FrAt at h
  simp [World.frozen?, h]
/-- Four new boxes. -/
theorem boxes4 (Ab An As Ar : Option Addr) (cb cn cs cr : Nat) (N : NetD) (a : AgtD) (b : BodD) (f : FrD) (w : World) : Below w.heap.size w ((((w.alloc (.cells (netCells Ab An As Ar cb cn cs cr N) 29)).alloc (.cells (AC a) 32)).alloc (.cells (BC b) 34)).alloc (.cells (FC f) 36)) ∧ ((((w.alloc (.cells (netCells Ab An As Ar cb cn cs cr N) 29)).alloc (.cells (AC a) 32)).alloc (.cells (BC b) 34)).alloc (.cells (FC f) 36)).heap[w.heap.size]? = some (.cells (netCells Ab An As Ar cb cn cs cr N) 29 (0, 0)) ∧ AgAt ((((w.alloc (.cells (netCells Ab An As Ar cb cn cs cr N) 29)).alloc (.cells (AC a) 32)).alloc (.cells (BC b) 34)).alloc (.cells (FC f) 36)) (w.heap.size + 1) a ∧ BodAt ((((w.alloc (.cells (netCells Ab An As Ar cb cn cs cr N) 29)).alloc (.cells (AC a) 32)).alloc (.cells (BC b) 34)).alloc (.cells (FC f) 36)) (w.heap.size + 1 + 1) b ∧ FrAt ((((w.alloc (.cells (netCells Ab An As Ar cb cn cs cr N) 29)).alloc (.cells (AC a) 32)).alloc (.cells (BC b) 34)).alloc (.cells (FC f) 36)) (w.heap.size + 1 + 1 + 1) f ∧ ((((w.alloc (.cells (netCells Ab An As Ar cb cn cs cr N) 29)).alloc (.cells (AC a) 32)).alloc (.cells (BC b) 34)).alloc (.cells (FC f) 36)).heap.size = w.heap.size + 4 := by
  have n : ∀ (W : World) (o : Obj), (W.alloc o).heap.size = W.heap.size + 1 := fun W o => by simp
  have k : ∀ (W : World) (o : Obj), Below W.heap.size W (W.alloc o) := fun W o => below_newF W o
  have h1 : (w.alloc (.cells (netCells Ab An As Ar cb cn cs cr N) 29)).heap[w.heap.size]? = some (.cells (netCells Ab An As Ar cb cn cs cr N) 29 (0, 0)) := heap_alloc_new w _
  have h2 := AgAt.new (w.alloc (.cells (netCells Ab An As Ar cb cn cs cr N) 29)) a
  rw [n] at h2
  have h3 := BodAt.new ((w.alloc (.cells (netCells Ab An As Ar cb cn cs cr N) 29)).alloc (.cells (AC a) 32)) b
  rw [n, n] at h3
  have h4 := FrAt.new (((w.alloc (.cells (netCells Ab An As Ar cb cn cs cr N) 29)).alloc (.cells (AC a) 32)).alloc (.cells (BC b) 34)) f
  rw [n, n, n] at h4
  refine ⟨(((k w _).alloc (by simp) _).alloc (by simp; omega) _).alloc (by simp; omega) _, ?_, (h2.keep (k _ _)).keep (k _ _), h3.keep (k _ _), h4, by rw [n, n, n, n]⟩
  exact ((k _ _).block _ (by simp; omega)).trans (((k _ _).block _ (by simp; omega)).trans (((k _ _).block _ (by simp)).trans h1))
set_option maxRecDepth 100000 in
set_option maxHeartbeats 8000000 in
theorem agentActs_c (Ab An As Ar C : Option Addr) (cb cn cs cr kc : Nat) (N : NetD) (a : AgtD) (b : BodD) (f : FrD) (robot : Int) (zs : List Int) (w : World) (hN : NetAt w Ab An As Ar N) (hl : NetLen N) (hcr : N.robots.length ≤ cr) (hz : IntsAt w w.heap.size C zs) (hzl : zs.length ≤ maxLen) :
    Calls Try.prog 3 #[.agg #[.slice Ab N.blocks.length cb, .slice An N.next.length cn, .slice As N.spurs.length cs, .slice Ar N.robots.length cr, Iv N.queue, Iv N.aging, Iv N.detours, Iv N.patience], AV a, BV b, FV f, .int .i64 robot, .slice C zs.length kc] w fun e w' => e = .returned (.bool true) ∧ Below w.heap.size w w' := by
  have HN := Lib.hid hN
  have HLn := Lib.hid hl
  have HCr := Lib.hid hcr
  have HZ := Lib.hid hz
  have HZl := Lib.hid hzl
  have CK := Lib.hid (fun W => known17_c W)
  have CN1 := Lib.hid (fun W => new_c W)
  have CN2 := Lib.hid (fun W => refNew_c W)
  have hboxes := boxes4 Ab An As Ar cb cn cs cr N a b f w
  have HB0 := Lib.hid hboxes.1
  have HX0 := Lib.hid hboxes.2.1
  have HA0 := Lib.hid hboxes.2.2.1
  have HBb0 := Lib.hid hboxes.2.2.2.1
  have HF0 := Lib.hid hboxes.2.2.2.2.1
  have s4 := hboxes.2.2.2.2.2
  clear hN hl hz hzl hboxes hcr
  go_enter Try.func3, Try.ntmps3
  go_wp2_with fail
  generalize ((((w.alloc (.cells (netCells Ab An As Ar cb cn cs cr N) 29)).alloc (.cells (AC a) 32)).alloc (.cells (BC b) 34)).alloc (.cells (FC f) 36)) = w0 at *
  refine (CK.out _).mono ?_
  rintro e w1 ⟨rfl, hb1⟩
  have HB1 := Lib.hid (HB0.out.trans (hb1.mono (by omega)))
  have HX1 := Lib.hid ((hb1.block w.heap.size (by omega)).trans HX0.out)
  have HA1 := Lib.hid (HA0.out.keep hb1)
  have HBb1 := Lib.hid (HBb0.out.keep hb1)
  have HF1 := Lib.hid (HF0.out.keep hb1)
  have hs1 : w.heap.size + 4 ≤ w1.heap.size := by have := hb1.size; omega
  have HT2 := Lib.hid (tape_new (c := kc) HZ.out (Nat.le_refl _) HB1.out HZl.out)
  have hbt := below_newB w1 (.cells #[.slice C zs.length kc, .int .i64 0] 40)
  have HB2 : Hid (Below w.heap.size w (w1.alloc (.cells #[.slice C zs.length kc, .int .i64 0] 40))) := Lib.hid (HB1.out.alloc HB1.out.size _)
  have HX2 := Lib.hid ((hbt.block w.heap.size (by omega)).trans HX1.out)
  have HA2 := Lib.hid (HA1.out.keep hbt)
  have HBb2 := Lib.hid (HBb1.out.keep hbt)
  have HF2 := Lib.hid (HF1.out.keep hbt)
  have hs2 : w1.heap.size + 1 = (w1.alloc (.cells #[.slice C zs.length kc, .int .i64 0] 40)).heap.size := by simp
  clear hb1 CK HX0 HA0 HBb0 HF0 HX1 HA1 HBb1 HF1 HB0 HB1 s4 HZ HZl hbt
  go_wp2
  generalize w1.alloc (.cells #[.slice C zs.length kc, .int .i64 0] 40) = w2 at *
  generalize hgt : w1.heap.size = gt at *
  clear hgt
  go_loopw [4, 14, 15, 16, 17, 18, 19, 20, 21, 22, 23, 24, 25, 26] (fun bv iv _ _ _ _ _ _ _ _ _ _ _ _ wr => ∃ q : Nat, iv = .int .i64 q ∧ q ≤ 2 ∧ (q = 0 → bv = .int .i64 robot ∧ wr = w2) ∧ (q = 1 → Hid (Below w2.heap.size w2 wr)) ∧ Hid (Below w.heap.size w wr)) (fun _ iv _ _ _ _ _ _ _ _ _ _ _ _ _ => 2 - (intOf iv).toNat)
  case atStart => exact ⟨0, rfl, by omega, fun _ => ⟨rfl, rfl⟩, fun h => by omega, HB2⟩
  case round =>
    obtain ⟨q, rfl, hq, hq0, hq1, HBr⟩ := hrel
    by_cases hq2 : q < 2
    · have hqi : (q : Int) < 2 := by omega
      go_upto_if 37 with fail
      go_cut [4, 15, 16] from 38 to 82 (fun p _ _ wx => ∃ (N2 : NetD) (Ab2 An2 As2 Ar2 : Option Addr) (cb2 cn2 cs2 cr2 : Nat) (a2 : AgtD) (b2 : BodD) (f2 : FrD) (r : Int), p = .int .i64 r ∧ Hid (NetAt wx Ab2 An2 As2 Ar2 N2) ∧ Hid (NetLen N2) ∧ Hid (N2.robots.length ≤ cr2) ∧ Hid (wx.heap[w.heap.size]? = some (.cells (netCells Ab2 An2 As2 Ar2 cb2 cn2 cs2 cr2 N2) 29 (0, 0))) ∧ Hid (AgAt wx (w.heap.size + 1) a2) ∧ Hid (BodAt wx (w.heap.size + 1 + 1) b2) ∧ Hid (FrAt wx (w.heap.size + 1 + 1 + 1) f2) ∧ Hid (Below w.heap.size w wx) ∧ (q = 0 → wx = w2))
      case first =>
        have hq3 : q = 0 ∨ q = 1 := by omega
        rcases hq3 with rfl | rfl
        · obtain ⟨rfl, rfl⟩ := hq0 rfl
          clear hq0 hq1
          have HNt := Lib.hid (HN.out.keep HB2.out)
          go_wp2_with fail
          go_meet
          case rel => exact ⟨N, Ab, An, As, Ar, cb, cn, cs, cr, a, b, f, robot, rfl, HNt, HLn, HCr, HX2, HA2, HBb2, HF2, HB2, fun _ => rfl⟩
        · have HW := hq1 rfl
          clear hq0 hq1
          have HTr := Lib.hid (HT2.out.keep HW.out)
          have HXr := Lib.hid ((HW.out.block _ (block_lt HX2.out)).trans HX2.out)
          have HAr := Lib.hid (HA2.out.keep HW.out)
          have HBbr := Lib.hid (HBb2.out.keep HW.out)
          have HFr := Lib.hid (HF2.out.keep HW.out)
          have hszr : gt < wr.heap.size := by have := HW.out.size; omega
          clear HN HLn HCr HT2 HX2 HA2 HBb2 HF2 HB2 HW
          go_wp2_with fail
          refine (loose_c w.heap.size gt 0 6 _ HTr.out (by omega) ⟨by omega, by omega⟩ hszr (by omega)).mono ?_
          rintro e w3 ⟨N2, Ab2, An2, As2, Ar2, cb2, cn2, cs2, cr2, top, rfl, hN2, hM3⟩
          have hz3 := hM3.still.size
          have hX3 := (hM3.still.block w.heap.size (by omega) (by omega)).trans HXr.out
          have hA3 : AgAt w3 (w.heap.size + 1) a := (hM3.still.block (w.heap.size + 1) (by omega) (by omega)).trans HAr.out
          have hBb3 : BodAt w3 (w.heap.size + 1 + 1) b := (hM3.still.block (w.heap.size + 1 + 1) (by omega) (by omega)).trans HBbr.out
          have hF3 : FrAt w3 (w.heap.size + 1 + 1 + 1) f := (hM3.still.block (w.heap.size + 1 + 1 + 1) (by omega) (by omega)).trans HFr.out
          have hB3 := HBr.out.trans (hM3.still.below HBr.out.size (by omega))
          have HO2 := Lib.hid hN2.ok
          obtain ⟨x0, x1, x2, x3, x4, x5, x6, x7⟩ := boxAt_of hX3
          have hfz : ∀ i, w3.frozen? ⟨w.heap.size, i, none⟩ = false := fun i => by simp [World.frozen?, hX3]
          have HX4 : Hid (((((((((w3.setCell ⟨w.heap.size, 0, none⟩ (.slice Ab2 N2.blocks.length cb2)).setCell ⟨w.heap.size, 1, none⟩ (.slice An2 N2.next.length cn2)).setCell ⟨w.heap.size, 2, none⟩ (.slice As2 N2.spurs.length cs2)).setCell ⟨w.heap.size, 3, none⟩ (.slice Ar2 N2.robots.length cr2)).setCell ⟨w.heap.size, 4, none⟩ (.int .i64 N2.queue)).setCell ⟨w.heap.size, 5, none⟩ (.int .i64 N2.aging)).setCell ⟨w.heap.size, 6, none⟩ (.int .i64 N2.detours)).setCell ⟨w.heap.size, 7, none⟩ (.int .i64 N2.patience)).heap[w.heap.size]? = some (.cells (netCells Ab2 An2 As2 Ar2 cb2 cn2 cs2 cr2 N2) 29 (0, 0))) := Lib.hid (set8_at hX3)
          have HG4 := Lib.hid (set8_grown w3 w.heap.size (.slice Ab2 N2.blocks.length cb2) (.slice An2 N2.next.length cn2) (.slice As2 N2.spurs.length cs2) (.slice Ar2 N2.robots.length cr2) (.int .i64 N2.queue) (.int .i64 N2.aging) (.int .i64 N2.detours) (.int .i64 N2.patience))
          have HM3 := Lib.hid hM3
          have HA3 := Lib.hid hA3
          have HBb3 := Lib.hid hBb3
          have HF3 := Lib.hid hF3
          have HB3 := Lib.hid hB3
          clear hM3 hX3 hA3 hBb3 hF3 hN2 HXr HAr HBbr HFr HTr HBr hB3
          go_upto_region 9 with fail
          clear x0 x1 x2 x3 x4 x5 x6 x7 hfz
          generalize ((((((((w3.setCell ⟨w.heap.size, 0, none⟩ (.slice Ab2 N2.blocks.length cb2)).setCell ⟨w.heap.size, 1, none⟩ (.slice An2 N2.next.length cn2)).setCell ⟨w.heap.size, 2, none⟩ (.slice As2 N2.spurs.length cs2)).setCell ⟨w.heap.size, 3, none⟩ (.slice Ar2 N2.robots.length cr2)).setCell ⟨w.heap.size, 4, none⟩ (.int .i64 N2.queue)).setCell ⟨w.heap.size, 5, none⟩ (.int .i64 N2.aging)).setCell ⟨w.heap.size, 6, none⟩ (.int .i64 N2.detours)).setCell ⟨w.heap.size, 7, none⟩ (.int .i64 N2.patience)) = w4 at *
          have hz4 := HG4.out.size
          have HM4 := Lib.hid (HM3.out.rebase (w' := w4) (HM3.out.tape.grown HG4.out (fun e => by injection e with e; omega) (fun k hk => by injection hk with hk; omega)) HG4.out.size (fun k hk hlt => HG4.out.block k hlt (fun e => by injection e with e; omega)))
          have hA4 := HA3.out.grown HG4.out (fun e => by injection e with e; omega)
          have hBb4 := BodAt.grown HBb3.out HG4.out (fun e => by injection e with e; omega)
          have hF4 := HF3.out.grown HG4.out (fun e => by injection e with e; omega)
          have hB4 := HB3.out.grown HG4.out (by omega) (fun k hk => by injection hk with hk; omega)
          have HP : Hid (PB w w4 gt (0 + 300) (0 + 300) wr.heap.size (wr.heap.size + 3) top N2 Ab2 An2 As2 Ar2 cb2 cn2 cs2 cr2 a b f w4) := Lib.hid ⟨HM4.out, fun _ _ _ => rfl, Nat.le_refl _, HM4.out.tape, HX4.out, hA4, hBb4, hF4, hB4, by omega, by omega⟩
          have HCr2 := Lib.hid HM4.out.capR
          obtain ⟨c, hc, hc1, hc48⟩ := HO2.out.count
          have hCl := cells_c Ab2 An2 As2 Ar2 cb2 cn2 cs2 cr2 N2 w4 HM4.out.at_ HO2.out.few'
          rw [hc] at hCl
          have HCl := Lib.hid hCl
          obtain ⟨n0, n1, n2, n3, n4, n5, n6, n7⟩ := boxAt_of HP.out.box
          generalize wr.heap.size = GG at *
          clear HM3 HA3 HBb3 HF3 HB3 HG4 HM4 HX4 hA4 hBb4 hF4 hB4 hCl hc
          go_wp2_with fail
          refine HCl.out.mono ?_
          rintro e w5 ⟨rfl, hb5⟩
          replace HP := Lib.hid (HP.out.keep hb5)
          clear hb5 HCl n0 n1 n2 n3 n4 n5 n6 n7
          have hgw : gt < w5.heap.size := by have := HP.out.ord; have := HP.out.size; omega
          go_wp2_with fail
          refine (made_c w.heap.size gt _ c w5 HP.out.tape (by omega) hgw hc1 (by omega)).mono ?_
          rintro e w6 ⟨a5, q5, rfl, _, ht, hg⟩
          replace HP := Lib.hid (HP.out.next ht hg)
          clear ht hg hgw
          obtain ⟨x0, x1, x2, x3, x4⟩ := HP.out.ag.cell
          obtain ⟨y0, y1, y2, y3⟩ := HP.out.bd.cell
          have xf := HP.out.ag.frozen
          have yf := HP.out.bd.frozen
          go_upto_region 10 with fail
          replace HP := Lib.hid ((HP.out.setA a5).setB q5)
          change Code.wp _ _ _ _ (put4B (put5A w6 (w.heap.size + 1) a5) (w.heap.size + 1 + 1) q5)
          generalize put4B (put5A w6 (w.heap.size + 1) a5) (w.heap.size + 1 + 1) q5 = w7 at *
          clear x0 x1 x2 x3 x4 y0 y1 y2 y3 xf yf
          have hgw : gt < w7.heap.size := by have := HP.out.ord; have := HP.out.size; omega
          go_wp2_with fail
          refine (frame_c w.heap.size gt _ w7 HP.out.tape (by omega) hgw).mono ?_
          rintro e w8 ⟨f6, rfl, _, _, ht, hg⟩
          replace HP := Lib.hid (HP.out.next ht hg)
          clear ht hg hgw
          obtain ⟨x0, x1, x2, x3, x4⟩ := HP.out.fr.cell
          have xf := FrAt.frozenAllA HP.out.fr
          go_upto_region 11 with fail
          replace HP := Lib.hid (HP.out.setF f6)
          change Code.wp _ _ _ _ (put5W w8 (w.heap.size + 1 + 1 + 1) f6)
          generalize put5W w8 (w.heap.size + 1 + 1 + 1) f6 = w9 at *
          clear x0 x1 x2 x3 x4 xf
          obtain ⟨x0, x1, x2, x3, x4⟩ := HP.out.fr.cell
          go_wp2_with fail
          refine (next_c w.heap.size gt _ 4 w9 HP.out.tape (by omega) (by omega) (by omega)).mono ?_
          rintro e w10 ⟨s, hs, rfl, ht, hg⟩
          replace HP := Lib.hid (HP.out.next ht hg)
          clear ht hg
          clear x0 x1 x2 x3 x4
          go_upto_if 53 with fail
          go_cut [4] from 54 to 55 (fun p wx => ∃ r : Int, p = .int .i64 r ∧ Hid (PB w w4 gt (0 + 300) (400) GG (GG + 3) top N2 Ab2 An2 As2 Ar2 cb2 cn2 cs2 cr2 a5 q5 f6 wx))
          case first =>
            by_cases h0 : s = 0
            · subst h0
              go_wp2_with fail
              refine (next_c w.heap.size gt _ 8 w10 HP.out.tape (by omega) (by omega) (by omega)).mono ?_
              rintro e w11 ⟨s1, hs1, rfl, ht, hg⟩
              replace HP := Lib.hid (HP.out.next ht hg)
              clear ht hg
              go_wp2_with fail
              go_meet
              case rel => exact ⟨_, rfl, Lib.hid (HP.out.more (by omega))⟩
            · have h0' : ((s : Int) == 0) = false := by rw [beq_eq_false_iff_ne]; omega
              go_wp2_with fail
              go_meet
              case rel => exact ⟨_, rfl, Lib.hid (HP.out.more (by omega))⟩
          case rest =>
            clear HP
            obtain ⟨r, rfl, HP⟩ := hcut
            obtain ⟨xs, er, hx24, hNx⟩ := nextMade2 Ab2 An2 As2 Ar2 cb2 cn2 cs2 cr2 N2 q5.cel wc HP.out.at_ HO2.out HO2.out.len HCr2.out
            have HNx := Lib.hid hNx
            clear hNx
            obtain ⟨n0, n1, n2, n3, n4, n5, n6, n7⟩ := boxAt_of HP.out.box
            obtain ⟨y0, y1, y2, y3⟩ := HP.out.bd.cell
            go_wp2_with fail
            refine (HNx.out _ (Below.refl _ _)).mono ?_
            rintro e w12 ⟨u, rfl, hu, hb⟩
            have hgc : gt < wc.heap.size := by have := HP.out.ord; have := HP.out.size; omega
            obtain ⟨A, d, rfl, _⟩ := own_is hu
            replace HP := Lib.hid (HP.out.keep hb)
            have HH := Lib.hid hu
            clear hb hu HNx n0 n1 n2 n3 n4 n5 n6 n7
            clear y0 y1 y2 y3
            by_cases he : er = 0
            · have he' : (er == 0) = true := by simpa using he
              by_cases hl : 0 < xs.length
              · have hli : (0 : Int) < (xs.length : Int) := by omega
                go_wp2_with fail
                refine (next_c w.heap.size gt _ 2 w12 HP.out.tape (by omega) (by omega) (by omega)).mono ?_
                rintro e w13 ⟨s2, hs2, rfl, ht, hg⟩
                have hlow := hg
                replace HP := Lib.hid (HP.out.next ht hg)
                clear ht hg
                by_cases h2 : s2 = 0
                · subst h2
                  have HH2 := Lib.hid (own_farI HH.out hlow hgc)
                  go_wp2_with fail
                  refine (next_c w.heap.size gt _ (xs.length : Int) w13 HP.out.tape (by omega) (by omega) (by omega)).mono ?_
                  rintro e w14 ⟨s3, hs3, rfl, ht, hg⟩
                  have HH3 := Lib.hid (own_farI HH2.out hg hgc)
                  replace HP := Lib.hid (HP.out.next ht hg)
                  clear ht hg
                  have hs3 : s3 < xs.length := by omega
                  obtain ⟨bq, oq, rfl, _, hq⟩ := (ownsRow_holds HH3.out).at_ (by rw [List.length_map]; omega)
                  have hq3 := hq s3 (by rw [List.length_map]; exact hs3)
                  rw [List.getElem_map] at hq3
                  generalize xs[s3] = z at *
                  have hs3i : (s3 : Int) < (xs.length : Int) := by omega
                  obtain ⟨x0, x1, x2, x3, x4⟩ := HP.out.ag.cell
                  have xf := HP.out.ag.frozen
                  clear HH HH2 HH3 hq hlow
                  replace HP := Lib.hid (HP.out.set1 z)
                  go_wp2_with fail
                  go_meet
                  case rel => exact ⟨N2, Ab2, An2, As2, Ar2, cb2, cn2, cs2, cr2, _, q5, f6, r, rfl, Lib.hid HP.out.at_, Lib.hid HO2.out.len, HCr2, Lib.hid HP.out.box, Lib.hid HP.out.ag, Lib.hid HP.out.bd, Lib.hid HP.out.fr, Lib.hid HP.out.below, fun h => by omega⟩
                · have h2' : ((s2 : Int) == 0) = false := by rw [beq_eq_false_iff_ne]; omega
                  clear hlow HH
                  go_wp2_with fail
                  go_meet
                  case rel => exact ⟨N2, Ab2, An2, As2, Ar2, cb2, cn2, cs2, cr2, a5, q5, f6, r, rfl, Lib.hid HP.out.at_, Lib.hid HO2.out.len, HCr2, Lib.hid HP.out.box, Lib.hid HP.out.ag, Lib.hid HP.out.bd, Lib.hid HP.out.fr, Lib.hid HP.out.below, fun h => by omega⟩
              · have hli : ¬ (0 : Int) < (xs.length : Int) := by omega
                go_wp2_with fail
                go_meet
                case rel => exact ⟨N2, Ab2, An2, As2, Ar2, cb2, cn2, cs2, cr2, a5, q5, f6, r, rfl, Lib.hid HP.out.at_, Lib.hid HO2.out.len, HCr2, Lib.hid HP.out.box, Lib.hid HP.out.ag, Lib.hid HP.out.bd, Lib.hid HP.out.fr, Lib.hid HP.out.below, fun h => by omega⟩
            · have he' : (er == 0) = false := by simpa using he
              go_wp2_with fail
              go_meet
              case rel => exact ⟨N2, Ab2, An2, As2, Ar2, cb2, cn2, cs2, cr2, a5, q5, f6, r, rfl, Lib.hid HP.out.at_, Lib.hid HO2.out.len, HCr2, Lib.hid HP.out.box, Lib.hid HP.out.ag, Lib.hid HP.out.bd, Lib.hid HP.out.fr, Lib.hid HP.out.below, fun h => by omega⟩
      case rest =>
        clear HT2 HX2 HA2 HBb2 HF2
        obtain ⟨N2, Ab2, An2, As2, Ar2, cb2, cn2, cs2, cr2, a2, b2, f2, r, rfl, HNt, HLn2, HCr2, HX, hAa, hBb, hFf, HBx, hqw⟩ := hcut
        replace hAa := hAa.out
        replace hBb := hBb.out
        replace hFf := hFf.out
        generalize wc = u0 at *
        have HU : Hid (Below u0.heap.size u0 u0) := Lib.hid (Below.refl _ _)
        have hxu := block_lt hFf
        obtain ⟨res, hfol, hF1, hF2⟩ := follows_pair2 Ab2 An2 As2 Ar2 cb2 cn2 cs2 cr2 N2 b2.cel a2.dst u0 HNt.out HLn2.out HCr2.out
        have C1 := Lib.hid (fun W => hear_c a2 r f2 W)
        have C2 := Lib.hid (fun W => refHear_c a2 r f2 W)
        have C3 := Lib.hid (fun W => again_c a2 r b2 W)
        have C4 := Lib.hid (fun W => refAgain_c a2 r b2 W)
        have C5 := Lib.hid (fun W (hW : Below u0.heap.size u0 W) => drive_c Ab2 An2 As2 Ar2 cb2 cn2 cs2 cr2 N2 a2 r b2 res W hfol (fun W2 hW2 => hF1 W2 (hW.trans (hW2.mono hW.size))))
        have C6 := Lib.hid (fun W (hW : Below u0.heap.size u0 W) => refDrive_c Ab2 An2 As2 Ar2 cb2 cn2 cs2 cr2 N2 a2 r b2 res W (fun W2 hW2 => hF2 W2 (hW.trans (hW2.mono hW.size))))
        have C7 := Lib.hid (fun W => finish_c a2 r b2 W)
        have C8 := Lib.hid (fun W => refFinish_c a2 r b2 W)
        unfold AFPost at C1 C2
        unfold FPost at C3 C4
        unfold ABFPost at C5 C6 C7 C8
        have l1 := hearL_len r f2
        have l2 := againL_len a2 r b2
        have l3 := driveL_len a2 r b2
        have l4 := finL_len a2 r b2
        have HSm : Hid (∀ (A1 A2 : Option Addr) (c1 c2 : Nat) (l : List FrD) (W : World), l.length ≤ 1 → Holds W A1 (frC l) → Holds W A2 (frC l) → Calls Try.prog 15 #[.slice A1 l.length c1, .slice A2 l.length c2] W fun e w' => e = .returned (.bool true) ∧ ∃ q, w' = W.drewN q) := Lib.hid (fun A1 A2 c1 c2 l W hl h1 h2 => sameF_c A1 A2 c1 c2 l.length l rfl W h1 h2 (by omega))
        generalize hearA a2 r f2 = R1 at *
        generalize hearL r f2 = M1 at *
        generalize againL a2 r b2 = M2 at *
        generalize driveA a2 b2 = R3 at *
        generalize driveB res a2 b2 = Q3 at *
        generalize driveL a2 r b2 = M3 at *
        generalize finA a2 b2 = R4 at *
        generalize finB b2 = Q4 at *
        generalize finL a2 r b2 = M4 at *
        have HM1 := Lib.hid l1
        have HM2 := Lib.hid l2
        have HM3 := Lib.hid l3
        have HM4 := Lib.hid l4
        have HNC := Lib.hid (fun W (hW : Below u0.heap.size u0 W) => boxAt_of ((hW.block _ (block_lt HX.out)).trans HX.out))
        have HA := Lib.hid hAa
        have HBd := Lib.hid hBb
        have HF := Lib.hid hFf
        clear hfol hF1 hF2 hAa hBb hFf HNt HLn2 HCr2 HX l1 l2 l3 l4
        obtain ⟨x0, x1, x2, x3, x4⟩ := HA.out.cell
        obtain ⟨f0, f1, f2, f3, f4⟩ := HF.out.cell
        go_wp2_with fail
        refine (C1.out _).mono ?_
        rintro e w3 ⟨v, rfl, hf, hb⟩
        obtain ⟨A3, c3, rfl, _⟩ := hf.form
        have HP := Lib.hid hf
        replace HA := Lib.hid (HA.out.keep hb)
        replace HBd := Lib.hid (HBd.out.keep hb)
        replace HF := Lib.hid (HF.out.keep hb)
        replace HU := Lib.hid (HU.out.trans (hb.mono HU.out.size))
        clear hf hb C1 x0 x1 x2 x3 x4 f0 f1 f2 f3 f4
        go_upto_region 18 with fail
        have HY1 : Hid (AgAt (w3.alloc (.cells (AC R1) 32)) w3.heap.size R1) := Lib.hid (AgAt.new w3 R1)
        have hb := below_newF w3 (.cells (AC R1) 32)
        replace HA := Lib.hid (HA.out.keep hb)
        replace HBd := Lib.hid (HBd.out.keep hb)
        replace HF := Lib.hid (HF.out.keep hb)
        replace HP := Lib.hid (HP.out.keep hb)
        replace HU := Lib.hid (HU.out.trans (hb.mono HU.out.size))
        generalize w3.alloc (.cells (AC R1) 32) = w4 at *
        generalize w3.heap.size = Y1 at *
        clear hb
        obtain ⟨x0, x1, x2, x3, x4⟩ := HA.out.cell
        obtain ⟨f0, f1, f2, f3, f4⟩ := HF.out.cell
        go_wp2_with fail
        refine (C2.out _).mono ?_
        rintro e w5 ⟨v, rfl, hf, hb⟩
        obtain ⟨A5, c5, rfl, _⟩ := hf.form
        have HQ := Lib.hid hf
        replace HA := Lib.hid (HA.out.keep hb)
        replace HBd := Lib.hid (HBd.out.keep hb)
        replace HF := Lib.hid (HF.out.keep hb)
        replace HP := Lib.hid (HP.out.keep hb)
        replace HY1 := Lib.hid (HY1.out.keep hb)
        replace HU := Lib.hid (HU.out.trans (hb.mono HU.out.size))
        clear hf hb C2 x0 x1 x2 x3 x4 f0 f1 f2 f3 f4
        go_upto_region 19 with fail
        have HY2 : Hid (AgAt (w5.alloc (.cells (AC R1) 32)) w5.heap.size R1) := Lib.hid (AgAt.new w5 R1)
        have hb := below_newF w5 (.cells (AC R1) 32)
        replace HA := Lib.hid (HA.out.keep hb)
        replace HBd := Lib.hid (HBd.out.keep hb)
        replace HF := Lib.hid (HF.out.keep hb)
        replace HP := Lib.hid (HP.out.keep hb)
        replace HQ := Lib.hid (HQ.out.keep hb)
        replace HY1 := Lib.hid (HY1.out.keep hb)
        replace HU := Lib.hid (HU.out.trans (hb.mono HU.out.size))
        generalize w5.alloc (.cells (AC R1) 32) = w6 at *
        generalize w5.heap.size = Y2 at *
        clear hb
        have HSK : Hid (∀ W, Below w6.heap.size w6 W → (W.cell? ⟨Y1, 0, none⟩ = some (.int .u64 R1.las) ∧ W.cell? ⟨Y1, 1, none⟩ = some (.int .i64 R1.dst) ∧ W.cell? ⟨Y1, 2, none⟩ = some (.bool R1.srv) ∧ W.cell? ⟨Y1, 3, none⟩ = some (.int .i64 R1.rpt) ∧ W.cell? ⟨Y1, 4, none⟩ = some (.int .i64 R1.cel)) ∧ (W.cell? ⟨Y2, 0, none⟩ = some (.int .u64 R1.las) ∧ W.cell? ⟨Y2, 1, none⟩ = some (.int .i64 R1.dst) ∧ W.cell? ⟨Y2, 2, none⟩ = some (.bool R1.srv) ∧ W.cell? ⟨Y2, 3, none⟩ = some (.int .i64 R1.rpt) ∧ W.cell? ⟨Y2, 4, none⟩ = some (.int .i64 R1.cel)) ∧ (W.cell? ⟨w.heap.size + 1, 0, none⟩ = some (.int .u64 a2.las) ∧ W.cell? ⟨w.heap.size + 1, 1, none⟩ = some (.int .i64 a2.dst) ∧ W.cell? ⟨w.heap.size + 1, 2, none⟩ = some (.bool a2.srv) ∧ W.cell? ⟨w.heap.size + 1, 3, none⟩ = some (.int .i64 a2.rpt) ∧ W.cell? ⟨w.heap.size + 1, 4, none⟩ = some (.int .i64 a2.cel)) ∧ (W.cell? ⟨w.heap.size + 1 + 1, 0, none⟩ = some (.int .i64 b2.cel) ∧ W.cell? ⟨w.heap.size + 1 + 1, 1, none⟩ = some (.int .i64 b2.dst) ∧ W.cell? ⟨w.heap.size + 1 + 1, 2, none⟩ = some (.bool b2.srv) ∧ W.cell? ⟨w.heap.size + 1 + 1, 3, none⟩ = some (.bool b2.flt))) := Lib.hid (fun W hW => ⟨(HY1.out.keep hW).cell, (HY2.out.keep hW).cell, (HA.out.keep hW).cell, (HBd.out.keep hW).cell⟩)
        have HS1 : Hid (∀ W, Below w6.heap.size w6 W → Calls Try.prog 15 #[.slice A3 M1.length c3, .slice A5 M1.length c5] W fun e w' => e = .returned (.bool true) ∧ ∃ q, w' = W.drewN q) := Lib.hid (fun W hW => by
          obtain ⟨A, c, e1, h1⟩ := (HP.out.keep hW).form
          obtain ⟨B, d, e2, h2⟩ := (HQ.out.keep hW).form
          injection e1 with e1 _ _
          injection e2 with e2 _ _
          subst e1 e2
          exact HSm.out _ _ _ _ _ _ HM1.out h1 h2)
        have hb6 : Below w6.heap.size w6 w6 := Below.refl _ _
        have hea := fun W => eq_ag R1 R1 W
        have hga := guard_ag
        simp only [decide_true] at hea
        go_cut [117] (fun s wx => s = .bool false ∧ Hid (Below w6.heap.size w6 wx))
        case first =>
          clear C5 C6 C7 C8 HNC
          go_region_held3 (fun W => (W.cell? ⟨Y1, 0, none⟩ = some (.int .u64 R1.las) ∧ W.cell? ⟨Y1, 1, none⟩ = some (.int .i64 R1.dst) ∧ W.cell? ⟨Y1, 2, none⟩ = some (.bool R1.srv) ∧ W.cell? ⟨Y1, 3, none⟩ = some (.int .i64 R1.rpt) ∧ W.cell? ⟨Y1, 4, none⟩ = some (.int .i64 R1.cel)) ∧ (W.cell? ⟨Y2, 0, none⟩ = some (.int .u64 R1.las) ∧ W.cell? ⟨Y2, 1, none⟩ = some (.int .i64 R1.dst) ∧ W.cell? ⟨Y2, 2, none⟩ = some (.bool R1.srv) ∧ W.cell? ⟨Y2, 3, none⟩ = some (.int .i64 R1.rpt) ∧ W.cell? ⟨Y2, 4, none⟩ = some (.int .i64 R1.cel)) ∧ (W.cell? ⟨w.heap.size + 1, 0, none⟩ = some (.int .u64 a2.las) ∧ W.cell? ⟨w.heap.size + 1, 1, none⟩ = some (.int .i64 a2.dst) ∧ W.cell? ⟨w.heap.size + 1, 2, none⟩ = some (.bool a2.srv) ∧ W.cell? ⟨w.heap.size + 1, 3, none⟩ = some (.int .i64 a2.rpt) ∧ W.cell? ⟨w.heap.size + 1, 4, none⟩ = some (.int .i64 a2.cel)) ∧ (W.cell? ⟨w.heap.size + 1 + 1, 0, none⟩ = some (.int .i64 b2.cel) ∧ W.cell? ⟨w.heap.size + 1 + 1, 1, none⟩ = some (.int .i64 b2.dst) ∧ W.cell? ⟨w.heap.size + 1 + 1, 2, none⟩ = some (.bool b2.srv) ∧ W.cell? ⟨w.heap.size + 1 + 1, 3, none⟩ = some (.bool b2.flt))) (exact HSK.out _ (by repeat (first | assumption | (with_reducible exact Below.refl _ _) | (with_reducible refine Below.drew ?_) | (with_reducible refine below_drewN ?_ _)))) (first | (go_at_call 15; (with_reducible refine (HS1.out _ (by repeat (first | assumption | (with_reducible exact Below.refl _ _) | (with_reducible refine Below.drew ?_) | (with_reducible refine below_drewN ?_ _)))).mono ?_); rintro e wS ⟨rfl, nS, rfl⟩) | (go_at_call 16; (with_reducible refine (C3.out _).mono ?_); rintro e wA ⟨v, rfl, hfA, hbA0⟩; have hbA : Below w6.heap.size w6 wA := Below.trans (by repeat (first | assumption | (with_reducible exact Below.refl _ _) | (with_reducible refine Below.drew ?_) | (with_reducible refine below_drewN ?_ _))) (hbA0.mono (by first | exact Nat.le_refl _ | (simp; done))); obtain ⟨A7, c7, rfl, hhA⟩ := hfA.form; clear hbA0) | (go_at_call 17; (with_reducible refine (C4.out _).mono ?_); rintro e wB ⟨v, rfl, hfB, hbB0⟩; have hbB : Below w6.heap.size w6 wB := Below.trans (by repeat (first | assumption | (with_reducible exact Below.refl _ _) | (with_reducible refine Below.drew ?_) | (with_reducible refine below_drewN ?_ _))) (hbB0.mono (by first | exact hbA.size | (simp; exact hbA.size))); obtain ⟨A8, c8, rfl, hhB⟩ := hfB.form; have hhA2 : Holds wB A7 (frC M2) := hhA.keep (by first | exact hbB0 | exact (Below.refl _ _).drew.trans hbB0); clear hbB0) | (go_at_call 15; (with_reducible refine (HSm.out _ _ _ _ M2 _ HM2.out (by first | exact hhA2 | exact hhA2.keep (Below.refl _ _).drew) (by first | exact hhB | exact hhB.keep (Below.refl _ _).drew)).mono ?_); rintro e wS ⟨rfl, nS2, rfl⟩))
          all_goals go_wp2_with fail
          all_goals
            go_meet
            exact ⟨rfl, Lib.hid (below_drewN hbB _)⟩
        case rest =>
          obtain ⟨rfl, hbc⟩ := hcut
          replace hbc := hbc.out
          replace HA := Lib.hid (HA.out.keep hbc)
          replace HBd := Lib.hid (HBd.out.keep hbc)
          replace HU := Lib.hid (HU.out.trans (hbc.mono HU.out.size))
          clear hbc HP HQ HY1 HY2 HF HSK HS1 hb6 hea hga C3 C4 HM1 HM2
          obtain ⟨n0, n1, n2, n3, n4, n5, n6, n7⟩ := HNC.out _ HU.out
          obtain ⟨x0, x1, x2, x3, x4⟩ := HA.out.cell
          obtain ⟨y0, y1, y2, y3⟩ := HBd.out.cell
          go_wp2_with fail
          refine (C5.out _ HU.out).mono ?_
          rintro e w8 ⟨v, rfl, hf, hb⟩
          obtain ⟨Ag, cg, rfl, _⟩ := hf.form
          have HP := Lib.hid hf
          replace HA := Lib.hid (HA.out.keep hb)
          replace HBd := Lib.hid (HBd.out.keep hb)
          replace HU := Lib.hid (HU.out.trans (hb.mono HU.out.size))
          clear hf hb C5
          clear n0 n1 n2 n3 n4 n5 n6 n7 x0 x1 x2 x3 x4 y0 y1 y2 y3
          go_upto_region 22 with fail
          have hZ10 := HU.out.size
          have HZ1 : Hid (AgAt ((w8.alloc (.cells (AC R3) 32)).alloc (.cells (BC Q3) 34)) w8.heap.size R3) := Lib.hid ((AgAt.new w8 R3).keep (below_newF _ _))
          have HZ2 : Hid (BodAt ((w8.alloc (.cells (AC R3) 32)).alloc (.cells (BC Q3) 34)) (w8.heap.size + 1) Q3) := Lib.hid (by
            have h := BodAt.new (w8.alloc (.cells (AC R3) 32)) Q3
            rwa [show (w8.alloc (.cells (AC R3) 32)).heap.size = w8.heap.size + 1 by simp] at h)
          have hb : Below w8.heap.size w8 ((w8.alloc (.cells (AC R3) 32)).alloc (.cells (BC Q3) 34)) := (below_newF w8 _).alloc (by simp) _
          replace HA := Lib.hid (HA.out.keep hb)
          replace HBd := Lib.hid (HBd.out.keep hb)
          replace HP := Lib.hid (HP.out.keep hb)
          replace HU := Lib.hid (HU.out.trans (hb.mono HU.out.size))
          have hZ1 : u0.heap.size ≤ w8.heap.size ∧ u0.heap.size ≤ w8.heap.size + 1 := by have := hZ10; omega
          generalize ((w8.alloc (.cells (AC R3) 32)).alloc (.cells (BC Q3) 34)) = w9 at *
          obtain ⟨Z2, hZ2⟩ : ∃ Z2, Z2 = w8.heap.size + 1 := ⟨_, rfl⟩
          have hZ2n : w8.heap.size < Z2 := by omega
          rw [← hZ2] at HZ2 hZ1 ⊢
          generalize w8.heap.size = Z1 at *
          clear hb hZ10 hZ2
          obtain ⟨n0, n1, n2, n3, n4, n5, n6, n7⟩ := HNC.out _ HU.out
          obtain ⟨x0, x1, x2, x3, x4⟩ := HA.out.cell
          obtain ⟨y0, y1, y2, y3⟩ := HBd.out.cell
          go_wp2_with fail
          refine (C6.out _ HU.out).mono ?_
          rintro e w10 ⟨v, rfl, hf, hb⟩
          obtain ⟨Ah, ch, rfl, _⟩ := hf.form
          have HQ := Lib.hid hf
          replace HA := Lib.hid (HA.out.keep hb)
          replace HBd := Lib.hid (HBd.out.keep hb)
          replace HP := Lib.hid (HP.out.keep hb)
          replace HZ1 := Lib.hid (HZ1.out.keep hb)
          replace HZ2 := Lib.hid (HZ2.out.keep hb)
          replace HU := Lib.hid (HU.out.trans (hb.mono HU.out.size))
          clear hf hb C6
          clear n0 n1 n2 n3 n4 n5 n6 n7 x0 x1 x2 x3 x4 y0 y1 y2 y3
          go_upto_region 23 with fail
          have hZ30 := HU.out.size
          have hZ1l := block_lt HZ1.out
          have hZ2l := block_lt HZ2.out
          have HZ3 : Hid (AgAt ((w10.alloc (.cells (AC R3) 32)).alloc (.cells (BC Q3) 34)) w10.heap.size R3) := Lib.hid ((AgAt.new w10 R3).keep (below_newF _ _))
          have HZ4 : Hid (BodAt ((w10.alloc (.cells (AC R3) 32)).alloc (.cells (BC Q3) 34)) (w10.heap.size + 1) Q3) := Lib.hid (by
            have h := BodAt.new (w10.alloc (.cells (AC R3) 32)) Q3
            rwa [show (w10.alloc (.cells (AC R3) 32)).heap.size = w10.heap.size + 1 by simp] at h)
          have hb : Below w10.heap.size w10 ((w10.alloc (.cells (AC R3) 32)).alloc (.cells (BC Q3) 34)) := (below_newF w10 _).alloc (by simp) _
          replace HA := Lib.hid (HA.out.keep hb)
          replace HBd := Lib.hid (HBd.out.keep hb)
          replace HP := Lib.hid (HP.out.keep hb)
          replace HQ := Lib.hid (HQ.out.keep hb)
          replace HZ1 := Lib.hid (HZ1.out.keep hb)
          replace HZ2 := Lib.hid (HZ2.out.keep hb)
          replace HU := Lib.hid (HU.out.trans (hb.mono HU.out.size))
          have hZ3 : u0.heap.size ≤ w10.heap.size ∧ u0.heap.size ≤ w10.heap.size + 1 := by have := hZ30; omega
          generalize ((w10.alloc (.cells (AC R3) 32)).alloc (.cells (BC Q3) 34)) = w11 at *
          obtain ⟨Z4, hZ4⟩ : ∃ Z4, Z4 = w10.heap.size + 1 := ⟨_, rfl⟩
          have hZ4n : w10.heap.size < Z4 := by omega
          rw [← hZ4] at HZ4 hZ3 ⊢
          generalize w10.heap.size = Z3 at *
          clear hb hZ30 hZ4
          clear HNC
          obtain ⟨x0, x1, x2, x3, x4⟩ := HZ1.out.cell
          obtain ⟨y0, y1, y2, y3⟩ := HZ2.out.cell
          obtain ⟨z0, z1, z2, z3, z4⟩ := HZ3.out.cell
          obtain ⟨u0, u1, u2, u3⟩ := HZ4.out.cell
          have hea := fun W => eq_ag R3 R3 W
          have heb := fun W => bod_eq Q3 Q3 W
          have hga := guard_ag
          have hgb := guard_bod
          simp only [decide_true] at hea heb
          obtain ⟨Au, cu, eu, hu⟩ := HP.out.form
          obtain ⟨Av, cv, ev, hv⟩ := HQ.out.form
          have hu2 : Holds w11 Ag (frC M3) := by injection eu with e1 _ _; rw [e1]; exact hu
          have hv2 : Holds w11 Ah (frC M3) := by injection ev with e1 _ _; rw [e1]; exact hv
          have HSx := Lib.hid (HSm.out Ag Ah cg ch M3 w11 HM3.out hu2 hv2)
          clear eu hu ev hv hu2 hv2
          go_wp2_with fail
          refine HSx.out.mono ?_
          rintro e wS ⟨rfl, nS, rfl⟩
          have hb : Below w11.heap.size w11 (w11.drewN nS) := below_drewN (Below.refl _ _) nS
          replace HA := Lib.hid (HA.out.keep hb)
          replace HBd := Lib.hid (HBd.out.keep hb)
          replace HZ1 := Lib.hid (HZ1.out.keep hb)
          replace HZ2 := Lib.hid (HZ2.out.keep hb)
          replace HZ3 := Lib.hid (HZ3.out.keep hb)
          replace HZ4 := Lib.hid (HZ4.out.keep hb)
          replace HU := Lib.hid (HU.out.trans (hb.mono HU.out.size))
          generalize w11.drewN nS = w12 at *
          clear hb HSx HP HQ
          clear hea heb hga hgb HM3 x0 x1 x2 x3 x4 y0 y1 y2 y3 z0 z1 z2 z3 z4 u0 u1 u2 u3
          obtain ⟨x0, x1, x2, x3, x4⟩ := HA.out.cell
          obtain ⟨y0, y1, y2, y3⟩ := HBd.out.cell
          have hz1m := block_lt HZ1.out
          have hz2m := block_lt HZ2.out
          have hz3a := block_lt HZ3.out
          have hz4a := block_lt HZ4.out
          go_wp2_with fail
          refine (C7.out _).mono ?_
          rintro e w13 ⟨v, rfl, hf, hb⟩
          obtain ⟨Ai, ci, rfl, _⟩ := hf.form
          have HP := Lib.hid hf
          replace HA := Lib.hid (HA.out.keep hb)
          replace HBd := Lib.hid (HBd.out.keep hb)
          replace HZ1 := Lib.hid (HZ1.out.keep hb)
          replace HZ2 := Lib.hid (HZ2.out.keep hb)
          replace HZ3 := Lib.hid (HZ3.out.keep hb)
          replace HZ4 := Lib.hid (HZ4.out.keep hb)
          replace HU := Lib.hid (HU.out.trans (hb.mono HU.out.size))
          clear hf hb C7
          clear x0 x1 x2 x3 x4 y0 y1 y2 y3
          obtain ⟨x0, x1, x2, x3, x4⟩ := HZ1.out.cell
          obtain ⟨y0, y1, y2, y3⟩ := HZ2.out.cell
          have xf := HZ1.out.frozen
          have yf := HZ2.out.frozen
          go_upto_region 26 with fail
          have hg1 := put5A_grown w13 Z1 R4
          have hg2 := put4B_grown (put5A w13 Z1 R4) Z2 Q4
          have n1 : AgAt (put4B (put5A w13 Z1 R4) Z2 Q4) Z1 R4 := (show AgAt (put5A w13 Z1 R4) Z1 R4 from HZ1.out.put5 R4).grown hg2 (fun e => by injection e with e; omega)
          have n2 : BodAt (put4B (put5A w13 Z1 R4) Z2 Q4) Z2 Q4 := (BodAt.grown HZ2.out hg1 (fun e => by injection e with e; omega)).put4 Q4
          replace HZ1 := Lib.hid n1
          replace HZ2 := Lib.hid n2
          replace HU := Lib.hid (put4B_below (X := Z2) (b := Q4) (put5A_below (X := Z1) (a := R4) HU.out (by omega)) (by omega))
          replace HA := Lib.hid ((HA.out.grown hg1 (fun e => by injection e with e; omega)).grown hg2 (fun e => by injection e with e; omega))
          replace HBd := Lib.hid (BodAt.grown (BodAt.grown HBd.out hg1 (fun e => by injection e with e; omega)) hg2 (fun e => by injection e with e; omega))
          replace HZ3 := Lib.hid ((HZ3.out.grown hg1 (fun e => by injection e with e; omega)).grown hg2 (fun e => by injection e with e; omega))
          replace HZ4 := Lib.hid (BodAt.grown (BodAt.grown HZ4.out hg1 (fun e => by injection e with e; omega)) hg2 (fun e => by injection e with e; omega))
          replace HP := Lib.hid ((HP.out.far hg1 (by omega)).far hg2 (by omega))
          change Code.wp _ _ _ _ (put4B (put5A w13 Z1 R4) Z2 Q4)
          generalize put4B (put5A w13 Z1 R4) Z2 Q4 = w14 at *
          clear hg1 hg2 n1 n2
          clear xf yf x0 x1 x2 x3 x4 y0 y1 y2 y3
          obtain ⟨x0, x1, x2, x3, x4⟩ := HA.out.cell
          obtain ⟨y0, y1, y2, y3⟩ := HBd.out.cell
          have hz3m := block_lt HZ3.out
          have hz4m := block_lt HZ4.out
          go_wp2_with fail
          refine (C8.out _).mono ?_
          rintro e w15 ⟨v, rfl, hf, hb⟩
          obtain ⟨Aj, cj, rfl, _⟩ := hf.form
          have HQ := Lib.hid hf
          replace HP := Lib.hid (HP.out.keep hb)
          replace HZ1 := Lib.hid (HZ1.out.keep hb)
          replace HZ2 := Lib.hid (HZ2.out.keep hb)
          replace HZ3 := Lib.hid (HZ3.out.keep hb)
          replace HZ4 := Lib.hid (HZ4.out.keep hb)
          replace HU := Lib.hid (HU.out.trans (hb.mono HU.out.size))
          clear hf hb C8
          clear x0 x1 x2 x3 x4 y0 y1 y2 y3 HA HBd
          obtain ⟨x0, x1, x2, x3, x4⟩ := HZ3.out.cell
          obtain ⟨y0, y1, y2, y3⟩ := HZ4.out.cell
          have xf := HZ3.out.frozen
          have yf := HZ4.out.frozen
          go_upto_region 27 with fail
          have hg1 := put5A_grown w15 Z3 R4
          have hg2 := put4B_grown (put5A w15 Z3 R4) Z4 Q4
          have n1 : AgAt (put4B (put5A w15 Z3 R4) Z4 Q4) Z3 R4 := (show AgAt (put5A w15 Z3 R4) Z3 R4 from HZ3.out.put5 R4).grown hg2 (fun e => by injection e with e; omega)
          have n2 : BodAt (put4B (put5A w15 Z3 R4) Z4 Q4) Z4 Q4 := (BodAt.grown HZ4.out hg1 (fun e => by injection e with e; omega)).put4 Q4
          replace HZ3 := Lib.hid n1
          replace HZ4 := Lib.hid n2
          replace HU := Lib.hid (put4B_below (X := Z4) (b := Q4) (put5A_below (X := Z3) (a := R4) HU.out (by omega)) (by omega))
          replace HZ1 := Lib.hid ((HZ1.out.grown hg1 (fun e => by injection e with e; omega)).grown hg2 (fun e => by injection e with e; omega))
          replace HZ2 := Lib.hid (BodAt.grown (BodAt.grown HZ2.out hg1 (fun e => by injection e with e; omega)) hg2 (fun e => by injection e with e; omega))
          replace HP := Lib.hid ((HP.out.far hg1 (by omega)).far hg2 (by omega))
          replace HQ := Lib.hid ((HQ.out.far hg1 (by omega)).far hg2 (by omega))
          change Code.wp _ _ _ _ (put4B (put5A w15 Z3 R4) Z4 Q4)
          generalize put4B (put5A w15 Z3 R4) Z4 Q4 = w16 at *
          clear hg1 hg2 n1 n2
          clear xf yf x0 x1 x2 x3 x4 y0 y1 y2 y3
          obtain ⟨x0, x1, x2, x3, x4⟩ := HZ1.out.cell
          obtain ⟨y0, y1, y2, y3⟩ := HZ2.out.cell
          obtain ⟨z0, z1, z2, z3, z4⟩ := HZ3.out.cell
          obtain ⟨u0, u1, u2, u3⟩ := HZ4.out.cell
          have hea := fun W => eq_ag R4 R4 W
          have heb := fun W => bod_eq Q4 Q4 W
          have hga := guard_ag
          have hgb := guard_bod
          simp only [decide_true] at hea heb
          obtain ⟨Au, cu, eu, hu⟩ := HP.out.form
          obtain ⟨Av, cv, ev, hv⟩ := HQ.out.form
          have hu2 : Holds w16 Ai (frC M4) := by injection eu with e1 _ _; rw [e1]; exact hu
          have hv2 : Holds w16 Aj (frC M4) := by injection ev with e1 _ _; rw [e1]; exact hv
          have HSx := Lib.hid (HSm.out Ai Aj ci cj M4 w16 HM4.out hu2 hv2)
          clear eu hu ev hv hu2 hv2
          go_wp2_with fail
          refine HSx.out.mono ?_
          rintro e wS ⟨rfl, nS, rfl⟩
          have hb : Below w16.heap.size w16 (w16.drewN nS) := below_drewN (Below.refl _ _) nS
          replace HZ1 := Lib.hid (HZ1.out.keep hb)
          replace HZ2 := Lib.hid (HZ2.out.keep hb)
          replace HZ3 := Lib.hid (HZ3.out.keep hb)
          replace HZ4 := Lib.hid (HZ4.out.keep hb)
          replace HU := Lib.hid (HU.out.trans (hb.mono HU.out.size))
          generalize w16.drewN nS = w17 at *
          clear hb HSx HP HQ
          clear hea heb hga hgb HM4 x0 x1 x2 x3 x4 y0 y1 y2 y3 z0 z1 z2 z3 z4 u0 u1 u2 u3
          go_wp2
          go_roundw
          case rel => exact ⟨q + 1, by go_num, by omega, (fun h => by omega), (fun h => by have e := hqw (by omega); subst e; exact HU), Lib.hid (HBx.out.trans (HU.out.mono HBx.out.size))⟩
          case measure => simp [intOf]; omega
    · have hqi : ¬ (q : Int) < 2 := by omega
      clear hq0 hq1
      go_wp2_with fail
      refine (CN1.out _).mono ?_
      rintro e w8 ⟨rfl, hb8⟩
      go_wp2_with fail
      refine (CN2.out _).mono ?_
      rintro e w9 ⟨rfl, hb9⟩
      have HBe := Lib.hid ((HBr.out.trans (hb8.mono HBr.out.size)).trans (hb9.mono (Nat.le_trans HBr.out.size hb8.size)))
      have hea := fun W => eq_ag newA newA W
      have hga := guard_ag
      simp only [decide_true] at hea
      go_wp2
      go_ret
      exact ⟨by first | rfl | simp, HBe.out⟩
end Go.Proofs.Ytmdnkpiihhaoeaa
