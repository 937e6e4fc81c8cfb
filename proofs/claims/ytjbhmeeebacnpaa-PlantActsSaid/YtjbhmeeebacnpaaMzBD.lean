/- Joined texts. -/
import Derived.Test.YtjbhmeeebacnpaaMzBC
import Derived.Test.YtjbhmeeebacnpaaMzAX
import Derived.Test.YtjbhmeeebacnpaaMzBB
namespace Go.Proofs.Ytjbhmeeebacnpaa
open Go Go.RowKit Fl

set_option maxRecDepth 100000 in
set_option maxHeartbeats 2000000 in
theorem refDo_c (Ab An As Ar A : Option Addr) (cb cn cs cr n cap : Nat) (N : NetD) (l : List BodD) (hn : l.length = n) (r a c : Int) (fol : Bool) (w : World) (hh : Holds w A (bodS.cs l)) (hn6 : n ≤ 5864062014805)
    (hF : ∀ W, Below w.heap.size w W → Calls Try.prog 53 #[.agg #[.slice Ab N.blocks.length cb, .slice An N.next.length cn, .slice As N.spurs.length cs, .slice Ar N.robots.length cr, Iv N.queue, Iv N.aging, Iv N.detours, Iv N.patience], .int .i64 (bodAt l r).cel, .int .i64 c] W fun e w' => e = .returned (.bool fol) ∧ Below W.heap.size W w') :
    Calls Try.prog 14 #[.agg #[.slice Ab N.blocks.length cb, .slice An N.next.length cn, .slice As N.spurs.length cs, .slice Ar N.robots.length cr, Iv N.queue, Iv N.aging, Iv N.detours, Iv N.patience], .slice A n cap, .int .i64 r, .int .i64 a, .int .i64 c] w
      fun e w' => ∃ v, e = .returned (.tuple #[v, .int .i64 (doE fol l r a c)]) ∧ bodS.Own w' w.heap.size v (doL fol l r a c) ∧ Below w.heap.size w w' := by
  subst hn
  have HB0 := Lib.hid (below_newB w (.cells (netCells Ab An As Ar cb cn cs cr N) 29))
  by_cases hr : rangeB l r c
  · have hr' := hr
    obtain ⟨r0, rn, c0, c48⟩ := hr'
    obtain ⟨i, rfl⟩ := Int.eq_ofNat_of_zero_le r0
    have hi : i < l.length := by omega
    have hC := fun W (hW : Below w.heap.size w W) => refChange_c Ab An As Ar cb cn cs cr N (bodAt l i) a c fol W (fun W' hW' => hF W' (hW.trans (hW'.mono hW.size)))
    have HO1 : Hid (okB fol (bodAt l i) a = false → doE fol l i a c = 24 ∧ doL fol l i a c = []) := Lib.hid (fun h => do_no hr h)
    have HO2 : Hid (okB fol (bodAt l i) a = true → doE fol l i a c = 0 ∧ doL fol l i a c = l.set i (chgB (bodAt l i) a c)) := Lib.hid (fun h => by have := do_ok hr h; rwa [Int.toNat_natCast] at this)
    obtain ⟨b, o, rfl, _, a1⟩ := StK.holds_at hh hi
    rw [← bodAt_nat hi] at a1
    have hx := fun W (hW : Below w.heap.size w W) => bod_cells (a1.keep hW)
    have HX : Hid (∀ W, Below w.heap.size w W → W.heap[w.heap.size]? = some (.cells (netCells Ab An As Ar cb cn cs cr N) 29 (0, 0)) → True) := Lib.hid (fun _ _ _ => trivial)
    clear HX hr hF
    obtain ⟨x0, x1, x2, x3⟩ := hx _ HB0.out
    have xa := fun ob => hx _ (HB0.out.alloc (by simp) ob)
    have hX0 : (w.alloc (.cells (netCells Ab An As Ar cb cn cs cr N) 29)).heap[w.heap.size]? = some (.cells (netCells Ab An As Ar cb cn cs cr N) 29 (0, 0)) := heap_alloc_new w _
    generalize hz : okB fol (bodAt l i) a = z at *
    generalize chgB (bodAt l i) a c = q at *
    clear hz
    generalize bodAt l i = f at *
    obtain ⟨cel, dst, srv, flt⟩ := f
    obtain ⟨qc, qd, qs, qf⟩ := q
    rw [show bodS.k = 4 from rfl] at x0 x1 x2 x3
    dsimp only at x0 x1 x2 x3
    have xa0 := fun ob => (xa ob).1
    have xa1 := fun ob => (xa ob).2.1
    have xa2 := fun ob => (xa ob).2.2.1
    have xa3 := fun ob => (xa ob).2.2.2
    rw [show bodS.k = 4 from rfl] at xa0 xa1 xa2 xa3
    dsimp only at xa0 xa1 xa2 xa3
    clear xa
    have HC := Lib.hid hC
    have HH := Lib.hid hh
    clear hC a1 hx hh
    go_enter Try.func14, Try.ntmps14
    go_wp2_with fail
    generalize (w.alloc (.cells (netCells Ab An As Ar cb cn cs cr N) 29)) = w1 at *
    obtain ⟨g0, g1, g2, g3, g4, g5, g6, g7⟩ := boxAt_of hX0
    have ga := fun ob => boxAt_of ((heap_alloc_old w1 ob (block_lt hX0)).trans hX0)
    have ga0 := fun ob => (ga ob).c0
    have ga1 := fun ob => (ga ob).c1
    have ga2 := fun ob => (ga ob).c2
    have ga3 := fun ob => (ga ob).c3
    have ga4 := fun ob => (ga ob).c4
    have ga5 := fun ob => (ga ob).c5
    have ga6 := fun ob => (ga ob).c6
    have ga7 := fun ob => (ga ob).c7
    clear ga hX0
    rename_i Q1 K1 hK1
    have HK : Hid (∀ a w, _ → K1 a w) := Lib.hid hK1
    clear hK1
    have hs1 : w.heap.size ≤ w1.heap.size := HB0.out.size
    go_region_with (go_at_call 32; refine (HC.out _ (by repeat (first | (with_reducible exact HB0.out) | (with_reducible refine Below.drew ?_) | exact (HB0.out.alloc hs1 _) | exact (HB0.out.alloc hs1 _).drew | exact (HB0.out.drew.alloc hs1 _)))).mono ?_; rintro e w4 ⟨rfl, hb4⟩; (first | (have hx9 : w4.heap[w1.heap.size]? = some (.cells #[.int .i64 0, .int .i64 0, .bool false, .bool false] 40 (0, 0)) := (hb4.block _ (by simp)).trans (by first | exact heap_alloc_new w1 _ | exact heap_alloc_new w1.drew _); have HG9 : Hid (BodAt w4 w1.heap.size zeroB) := Lib.hid hx9; obtain ⟨y0, y1, y2, y3⟩ := HG9.out.cell; have fg := HG9.out.frozen; clear hx9) | skip); have HB4 : Hid (Below w.heap.size w w4) := Lib.hid (by first | exact HB0.out.trans (hb4.mono hs1) | exact HB0.out.drew.trans (hb4.mono hs1) | exact (HB0.out.alloc hs1 _).trans (hb4.mono (by simp; omega)) | exact (HB0.out.alloc hs1 _).drew.trans (hb4.mono (by simp; omega)) | exact (HB0.out.drew.alloc hs1 _).trans (hb4.mono (by simp; omega))); clear hb4)
    all_goals refine HK.out _ _ ?_
    all_goals (first
      | (have HG5 : Hid (BodAt ((((w4.setCell ⟨w1.heap.size, 0, none⟩ (.int .i64 qc)).setCell ⟨w1.heap.size, 1, none⟩ (.int .i64 qd)).setCell ⟨w1.heap.size, 2, none⟩ (.bool qs)).setCell ⟨w1.heap.size, 3, none⟩ (.bool qf)) w1.heap.size ⟨qc, qd, qs, qf⟩) := Lib.hid (HG9.out.put4 ⟨qc, qd, qs, qf⟩)
         have HB5 : Hid (Below w.heap.size w ((((w4.setCell ⟨w1.heap.size, 0, none⟩ (.int .i64 qc)).setCell ⟨w1.heap.size, 1, none⟩ (.int .i64 qd)).setCell ⟨w1.heap.size, 2, none⟩ (.bool qs)).setCell ⟨w1.heap.size, 3, none⟩ (.bool qf))) := Lib.hid (below_put (below_put (below_put (below_put HB4.out hs1) hs1) hs1) hs1)
         clear HG9 fg y0 y1 y2 y3
         generalize ((((w4.setCell ⟨w1.heap.size, 0, none⟩ (.int .i64 qc)).setCell ⟨w1.heap.size, 1, none⟩ (.int .i64 qd)).setCell ⟨w1.heap.size, 2, none⟩ (.bool qs)).setCell ⟨w1.heap.size, 3, none⟩ (.bool qf)) = w5 at *
         generalize w1.heap.size = Y at *)
      | (have HG5 : Hid (BodAt (w4.alloc (.cells #[.int .i64 qc, .int .i64 qd, .bool qs, .bool qf] 40)) w4.heap.size ⟨qc, qd, qs, qf⟩) := Lib.hid (heap_alloc_new w4 _)
         have HB5 : Hid (Below w.heap.size w (w4.alloc (.cells #[.int .i64 qc, .int .i64 qd, .bool qs, .bool qf] 40))) := Lib.hid (HB4.out.alloc HB4.out.size _)
         generalize (w4.alloc (.cells #[.int .i64 qc, .int .i64 qd, .bool qs, .bool qf] 40)) = w5 at *
         generalize w4.heap.size = Y at *))
    all_goals clear HK HB4 HC hs1 g0 g1 g2 g3 g4 g5 g6 g7 ga0 ga1 ga2 ga3 ga4 ga5 ga6 ga7 x0 x1 x2 x3 xa0 xa1 xa2 xa3
    all_goals
      have HA5 : Hid (bodS.Arg w5 (.slice (some ⟨b, o, none⟩) l.length cap) l) := Lib.hid (StK.Arg.all (HH.out.keep HB5.out) cap)
      obtain ⟨y0, y1, y2, y3⟩ := HG5.out.cell
      rcases z with _ | _
      · have HE := Lib.hid (HO1.out rfl)
        clear HO1 HO2
        go_wp2
        go_ret2
        exact ⟨_, by rw [HE.out.1]; rfl, by rw [HE.out.2]; exact StK.Own.nil _ _ _, HB5.out⟩
      · have HE := Lib.hid (HO2.out rfl)
        clear HO1 HO2
        go_wp2_with (at_builtin; refine StK.app_moreB (S := bodS) _ rfl _ _ (by rfl) w.heap.size _ [] (by rfl) (StK.Own.nil _ _ _) _ l (by rfl) HA5.out (by simp; unfold maxLen; omega) (by rw [show bodS.bytes = 24 from rfl]; simp; omega) HB5.out.size ?_)
        intro v2 w2 hO2 hg2
        obtain ⟨g, c2, rfl, hbg, hgw⟩ := hO2.blk (by omega)
        have HB6 := Lib.hid (HB5.out.grown hg2 HB5.out.size (fun k hk => by simp [Value.ownBlock] at hk))
        have HG6 : Hid (BodAt w2 Y ⟨qc, qd, qs, qf⟩) := Lib.hid ((hg2.block Y (block_lt HG5.out) (by simp [Value.ownBlock])).trans HG5.out)
        clear y0 y1 y2 y3
        obtain ⟨y0, y1, y2, y3⟩ := HG6.out.cell
        obtain ⟨ha, hf⟩ := hO2.get rfl hi
        obtain ⟨v0, v1, v2, v3⟩ := bod_cells ha
        have f0 : w2.frozen? ⟨g, i * 4, none⟩ = false := hf 0 (by decide)
        have f1 : w2.frozen? ⟨g, i * 4 + 1, none⟩ = false := hf 1 (by decide)
        have f2 : w2.frozen? ⟨g, i * 4 + 2, none⟩ = false := hf 2 (by decide)
        have f3 : w2.frozen? ⟨g, i * 4 + 3, none⟩ = false := hf 3 (by decide)
        rw [show bodS.k = 4 from rfl] at v0 v1 v2 v3
        have HS6 := Lib.hid (hO2.set hi ⟨qc, qd, qs, qf⟩)
        have HP6 := Lib.hid (StK.puts_below hbg (bodS.f ⟨qc, qd, qs, qf⟩) w2 (i * bodS.k) HB6.out)
        generalize l[i] = li at *
        obtain ⟨ic, id, is, iff⟩ := li
        dsimp only at v0 v1 v2 v3
        clear ha hf hO2 hg2 HA5 HG5 HB5 HG6
        go_wp2
        go_ret2
        exact ⟨_, by rw [HE.out.1]; rfl, by rw [HE.out.2]; exact HS6.out, HP6.out⟩
  · have HE := Lib.hid (do_range (fol := fol) (a := a) hr)
    rw [HE.out.1, HE.out.2]
    have hr2 : r < 0 ∨ (l.length : Int) ≤ r ∨ c < 0 ∨ 48 ≤ c := by
      unfold rangeB at hr
      omega
    clear hr hF hh HE
    by_cases h1 : r < 0
    · go_enter Try.func14, Try.ntmps14
      go_wp2
      go_ret2
      exact ⟨_, rfl, StK.Own.nil _ _ _, HB0.out⟩
    · by_cases h2 : (l.length : Int) ≤ r
      · go_enter Try.func14, Try.ntmps14
        go_wp2
        go_ret2
        exact ⟨_, rfl, StK.Own.nil _ _ _, HB0.out⟩
      · by_cases h3 : c < 0
        · go_enter Try.func14, Try.ntmps14
          go_wp2
          go_ret2
          exact ⟨_, rfl, StK.Own.nil _ _ _, HB0.out⟩
        · have h4 : 48 ≤ c := by omega
          go_enter Try.func14, Try.ntmps14
          go_wp2
          go_ret2
          exact ⟨_, rfl, StK.Own.nil _ _ _, HB0.out⟩
end Go.Proofs.Ytjbhmeeebacnpaa
namespace Go.Proofs.Ytjbhmeeebacnpaa
open Go Go.RowKit Fl

theorem aC_idem (a c : Int) : aC a (aC a c) = aC a c := by
  unfold aC
  split <;> rfl
theorem doL_len (fol : Bool) (l : List BodD) (r a c : Int) : (doL fol l r a c).length ≤ l.length := by
  unfold doL
  split <;> simp
/-- A made network (as it was made in wN) in the first box, three numbers in the second, the tape, a list of bodies. -/
structure PA (w wN : World) (gt T0 T GG base top : Nat) (N : NetD) (Ab An As Ar : Option Addr) (cb cn cs cr : Nat) (v : Value) (l : List BodD) (a0 a1 a2 : Int) (wr : World) : Prop where
  nm : NM wN w.heap.size gt T0 GG base top N Ab An As Ar cb cn cs cr wN
  same : ∀ k, base ≤ k → k < wN.heap.size → wr.heap[k]? = wN.heap[k]?
  size : wN.heap.size ≤ wr.heap.size
  tape : TapeOk wr w.heap.size gt T
  box : wr.heap[w.heap.size]? = some (.cells (netCells Ab An As Ar cb cn cs cr N) 29 (0, 0))
  vb : wr.heap[w.heap.size + 1]? = some (.cells #[.int .i64 a0, .int .i64 a1, .int .i64 a2] 31 (0, 0))
  own : bodS.Own wr wN.heap.size v l
  below : Below w.heap.size w wr
  ord : w.heap.size + 1 < gt ∧ gt < wN.heap.size
section
variable {w wN wr w' : World} {gt T0 T T' GG base top : Nat} {N : NetD} {Ab An As Ar : Option Addr} {cb cn cs cr : Nat} {v v' : Value} {l l' : List BodD} {a0 a1 a2 b0 b1 b2 : Int}
theorem PA.at_ (h : PA w wN gt T0 T GG base top N Ab An As Ar cb cn cs cr v l a0 a1 a2 wr) : NetAt wr Ab An As Ar N := (h.nm.rebase h.tape h.size h.same).at_
theorem PA.next (h : PA w wN gt T0 T GG base top N Ab An As Ar cb cn cs cr v l a0 a1 a2 wr) (ht : TapeOk w' w.heap.size gt T') (hg : wr.grownBy w' (some gt)) : PA w wN gt T0 T' GG base top N Ab An As Ar cb cn cs cr v l a0 a1 a2 w' := by
  have ho := h.ord
  have h0 := h.nm.ord
  have hl := h.size
  exact ⟨h.nm, fun k hk hlt => (hg.block k (by omega) (fun e => by injection e with e; omega)).trans (h.same k hk hlt), Nat.le_trans hl hg.size, ht, (hg.block _ (by omega) (fun e => by injection e with e; omega)).trans h.box, (hg.block _ (by omega) (fun e => by injection e with e; omega)).trans h.vb, h.own.far hg (by omega), h.below.grown hg (by omega) (fun k hk => by injection hk with hk; omega), ho⟩
theorem PA.keep (h : PA w wN gt T0 T GG base top N Ab An As Ar cb cn cs cr v l a0 a1 a2 wr) (hb : Below wr.heap.size wr w') : PA w wN gt T0 T GG base top N Ab An As Ar cb cn cs cr v l a0 a1 a2 w' := by
  have ho := h.ord
  have hl := h.size
  exact ⟨h.nm, fun k hk hlt => (hb.block k (by omega)).trans (h.same k hk hlt), Nat.le_trans hl hb.size, h.tape.keep hb, (hb.block _ (by omega)).trans h.box, (hb.block _ (by omega)).trans h.vb, h.own.keep hb, h.below.trans (hb.mono (by omega)), ho⟩
theorem PA.more (h : PA w wN gt T0 T GG base top N Ab An As Ar cb cn cs cr v l a0 a1 a2 wr) (hT : T ≤ T') : PA w wN gt T0 T' GG base top N Ab An As Ar cb cn cs cr v l a0 a1 a2 wr :=
  ⟨h.nm, h.same, h.size, h.tape.more hT, h.box, h.vb, h.own, h.below, h.ord⟩
/-- The list was appended to. -/
theorem PA.app (h : PA w wN gt T0 T GG base top N Ab An As Ar cb cn cs cr v l a0 a1 a2 wr) (hg : wr.grownBy w' v.ownBlock) (hown : bodS.Own w' wN.heap.size v' l') : PA w wN gt T0 T GG base top N Ab An As Ar cb cn cs cr v' l' a0 a1 a2 w' := by
  have ho := h.ord
  have h0 := h.nm.ord
  have hl := h.size
  have hb := h.own.block
  exact ⟨h.nm, fun k hk hlt => (hg.block k (by omega) (fun e => by have := hb k e.symm; omega)).trans (h.same k hk hlt), Nat.le_trans hl hg.size, h.tape.grown hg (fun e => by have := hb gt e; omega) (fun q hq => by have := hb q hq; omega), (hg.block _ (by omega) (fun e => by have := hb _ e.symm; omega)).trans h.box, (hg.block _ (by omega) (fun e => by have := hb _ e.symm; omega)).trans h.vb, hown, h.below.grown hg (by omega) (fun q hq => by have := hb q hq; omega), ho⟩
/-- The second box is written. -/
theorem PA.vset (h : PA w wN gt T0 T GG base top N Ab An As Ar cb cn cs cr v l a0 a1 a2 wr) (hg : wr.grownBy w' (some (w.heap.size + 1))) (hv : w'.heap[w.heap.size + 1]? = some (.cells #[.int .i64 b0, .int .i64 b1, .int .i64 b2] 31 (0, 0))) : PA w wN gt T0 T GG base top N Ab An As Ar cb cn cs cr v l b0 b1 b2 w' := by
  have ho := h.ord
  have h0 := h.nm.ord
  have hl := h.size
  exact ⟨h.nm, fun k hk hlt => (hg.block k (by omega) (fun e => by injection e with e; omega)).trans (h.same k hk hlt), Nat.le_trans hl hg.size, h.tape.grown hg (fun e => by injection e with e; omega) (fun k hk => by injection hk with hk; omega), (hg.block _ (by omega) (fun e => by injection e with e; omega)).trans h.box, hv, h.own.far hg (by omega), h.below.grown hg (by omega) (fun k hk => by injection hk with hk; omega), ho⟩
theorem PA.vcells (h : PA w wN gt T0 T GG base top N Ab An As Ar cb cn cs cr v l a0 a1 a2 wr) : (wr.cell? ⟨w.heap.size + 1, 0, none⟩ = some (.int .i64 a0) ∧ wr.cell? ⟨w.heap.size + 1, 1, none⟩ = some (.int .i64 a1) ∧ wr.cell? ⟨w.heap.size + 1, 2, none⟩ = some (.int .i64 a2)) ∧ ∀ i, wr.frozen? ⟨w.heap.size + 1, i, none⟩ = false :=
  ⟨three_c h.vb, fun i => by simp [World.frozen?, h.vb]⟩
end
set_option maxRecDepth 100000 in
set_option maxHeartbeats 8000000 in
theorem plantActs_c (Ab An As Ar A0 C : Option Addr) (cb cn cs cr c0 kc : Nat) (N : NetD) (raw : List BodD) (v0 v1 v2 : Int) (zs : List Int) (w : World) (hN : NetAt w Ab An As Ar N) (hl : NetLen N) (hcr : N.robots.length ≤ cr) (hr : Holds w A0 (bodS.cs raw)) (hrl : raw.length ≤ 5864062014805) (hv : -9223372036854775808 ≤ v1 ∧ v1 ≤ 9223372036854775807) (hz : IntsAt w w.heap.size C zs) (hzl : zs.length ≤ maxLen) :
    Calls Try.prog 3 #[.agg #[.slice Ab N.blocks.length cb, .slice An N.next.length cn, .slice As N.spurs.length cs, .slice Ar N.robots.length cr, Iv N.queue, Iv N.aging, Iv N.detours, Iv N.patience], .slice A0 raw.length c0, .agg #[.int .i64 v0, .int .i64 v1, .int .i64 v2], .slice C zs.length kc] w fun e w' => e = .returned (.bool true) ∧ Below w.heap.size w w' := by
  have HN := Lib.hid hN
  have HLn := Lib.hid hl
  have HCr := Lib.hid hcr
  have HR := Lib.hid hr
  have HZ := Lib.hid hz
  have HZl := Lib.hid hzl
  have CK := Lib.hid (fun W => known16_c W)
  have hb0 : Below w.heap.size w ((w.alloc (.cells (netCells Ab An As Ar cb cn cs cr N) 29)).alloc (.cells #[.int .i64 v0, .int .i64 v1, .int .i64 v2] 31)) := ((Below.refl _ _).alloc (Nat.le_refl _) _).alloc (by simp) _
  have HB0 := Lib.hid hb0
  have s1 : (w.alloc (.cells (netCells Ab An As Ar cb cn cs cr N) 29)).heap.size = w.heap.size + 1 := by simp
  have HX0 : Hid (((w.alloc (.cells (netCells Ab An As Ar cb cn cs cr N) 29)).alloc (.cells #[.int .i64 v0, .int .i64 v1, .int .i64 v2] 31)).heap[w.heap.size]? = some (.cells (netCells Ab An As Ar cb cn cs cr N) 29 (0, 0))) := Lib.hid ((Below.heap_alloc _ _ _ (by rw [s1]; omega)).trans (heap_alloc_new w _))
  have HY0 : Hid (((w.alloc (.cells (netCells Ab An As Ar cb cn cs cr N) 29)).alloc (.cells #[.int .i64 v0, .int .i64 v1, .int .i64 v2] 31)).heap[w.heap.size + 1]? = some (.cells #[.int .i64 v0, .int .i64 v1, .int .i64 v2] 31 (0, 0))) := Lib.hid (by
    have h := heap_alloc_new (w.alloc (.cells (netCells Ab An As Ar cb cn cs cr N) 29)) (.cells #[.int .i64 v0, .int .i64 v1, .int .i64 v2] 31)
    rw [s1] at h
    exact h)
  have s2 : w.heap.size + 2 = ((w.alloc (.cells (netCells Ab An As Ar cb cn cs cr N) 29)).alloc (.cells #[.int .i64 v0, .int .i64 v1, .int .i64 v2] 31)).heap.size := by simp
  clear hN hl hz hzl hb0 s1 hcr hr
  go_enter Try.func3, Try.ntmps3
  go_wp2_with fail
  generalize (w.alloc (.cells (netCells Ab An As Ar cb cn cs cr N) 29)).alloc (.cells #[.int .i64 v0, .int .i64 v1, .int .i64 v2] 31) = w0 at *
  refine (CK.out _).mono ?_
  rintro e w1 ⟨rfl, hb1⟩
  have HB1 := Lib.hid (HB0.out.trans (hb1.mono (by omega)))
  have HX1 := Lib.hid ((hb1.block w.heap.size (by omega)).trans HX0.out)
  have HY1 := Lib.hid ((hb1.block (w.heap.size + 1) (by omega)).trans HY0.out)
  have hs1 : w.heap.size + 2 ≤ w1.heap.size := by have := hb1.size; omega
  have HT2 := Lib.hid (tape_new (c := kc) HZ.out (Nat.le_refl _) HB1.out HZl.out)
  have HB2 : Hid (Below w.heap.size w (w1.alloc (.cells #[.slice C zs.length kc, .int .i64 0] 35))) := Lib.hid (HB1.out.alloc HB1.out.size _)
  have HX2 : Hid ((w1.alloc (.cells #[.slice C zs.length kc, .int .i64 0] 35)).heap[w.heap.size]? = some (.cells (netCells Ab An As Ar cb cn cs cr N) 29 (0, 0))) := Lib.hid ((heap_alloc_old w1 _ (by omega)).trans HX1.out)
  have HY2 : Hid ((w1.alloc (.cells #[.slice C zs.length kc, .int .i64 0] 35)).heap[w.heap.size + 1]? = some (.cells #[.int .i64 v0, .int .i64 v1, .int .i64 v2] 31 (0, 0))) := Lib.hid ((heap_alloc_old w1 _ (by omega)).trans HY1.out)
  have hs2 : w1.heap.size + 1 = (w1.alloc (.cells #[.slice C zs.length kc, .int .i64 0] 35)).heap.size := by simp
  clear hb1 CK HX0 HY0 HX1 HY1 HB0 HB1 s2 HZ HZl
  go_wp2
  generalize w1.alloc (.cells #[.slice C zs.length kc, .int .i64 0] 35) = w2 at *
  generalize hgt : w1.heap.size = gt at *
  clear hgt
  go_loopw [1, 10] (fun bv iv wr => ∃ q : Nat, iv = .int .i64 q ∧ q ≤ 2 ∧ (q = 0 → bv = .slice A0 raw.length c0 ∧ wr = w2) ∧ (q = 1 → Hid (Below w2.heap.size w2 wr)) ∧ Hid (Below w.heap.size w wr)) (fun _ iv _ => 2 - (intOf iv).toNat)
  case atStart => exact ⟨0, rfl, by omega, fun _ => ⟨rfl, rfl⟩, fun h => by omega, HB2⟩
  case round =>
    obtain ⟨q, rfl, hq, hq0, hq1, HBr⟩ := hrel
    by_cases hq2 : q < 2
    · have hqi : (q : Int) < 2 := by omega
      go_upto_if 30 with fail
      go_cut [1, 11, 12, 13] from 31 to 74 (fun p _ _ _ wx => ∃ (N2 : NetD) (Ab2 An2 As2 Ar2 : Option Addr) (cb2 cn2 cs2 cr2 : Nat) (A : Option Addr) (d : Nat) (l : List BodD) (a0 a1 a2 : Int), p = .slice A l.length d ∧ l.length ≤ 5864062014805 ∧ (-9223372036854775808 ≤ a1 ∧ a1 ≤ 9223372036854775807) ∧ Hid (Holds wx A (bodS.cs l)) ∧ Hid (NetAt wx Ab2 An2 As2 Ar2 N2) ∧ Hid (NetLen N2) ∧ Hid (N2.robots.length ≤ cr2) ∧ Hid (wx.heap[w.heap.size]? = some (.cells (netCells Ab2 An2 As2 Ar2 cb2 cn2 cs2 cr2 N2) 29 (0, 0))) ∧ Hid (wx.heap[w.heap.size + 1]? = some (.cells #[.int .i64 a0, .int .i64 a1, .int .i64 a2] 31 (0, 0))) ∧ Hid (Below w.heap.size w wx) ∧ (q = 0 → wx = w2))
      case first =>
        have hq3 : q = 0 ∨ q = 1 := by omega
        rcases hq3 with rfl | rfl
        · obtain ⟨rfl, rfl⟩ := hq0 rfl
          clear hq0 hq1
          have HNt := Lib.hid (HN.out.keep HB2.out)
          have HRw := Lib.hid (HR.out.keep HB2.out)
          go_wp2_with fail
          go_meet
          case rel => exact ⟨N, Ab, An, As, Ar, cb, cn, cs, cr, A0, c0, raw, v0, v1, v2, rfl, hrl, hv, HRw, HNt, HLn, HCr, HX2, HY2, HB2, fun _ => rfl⟩
        · have HW := hq1 rfl
          clear hq0 hq1
          have HTr := Lib.hid (HT2.out.keep HW.out)
          have HXr := Lib.hid ((HW.out.block _ (block_lt HX2.out)).trans HX2.out)
          have HYr := Lib.hid ((HW.out.block _ (block_lt HY2.out)).trans HY2.out)
          have hszr : gt < wr.heap.size := by have := HW.out.size; omega
          clear HN HLn HCr HR HT2 HX2 HY2 HB2 HW
          go_wp2_with fail
          refine (loose_c w.heap.size gt 0 6 _ HTr.out (by omega) ⟨by omega, by omega⟩ hszr (by omega)).mono ?_
          rintro e w3 ⟨N2, Ab2, An2, As2, Ar2, cb2, cn2, cs2, cr2, top, rfl, hN2, hM3⟩
          have hz3 := hM3.still.size
          have hX3 := (hM3.still.block w.heap.size (by omega) (by omega)).trans HXr.out
          have hY3 := (hM3.still.block (w.heap.size + 1) (by omega) (by omega)).trans HYr.out
          have hB3 := HBr.out.trans (hM3.still.below HBr.out.size (by omega))
          have HO2 := Lib.hid hN2.ok
          obtain ⟨x0, x1, x2, x3, x4, x5, x6, x7⟩ := boxAt_of hX3
          have hfz : ∀ i, w3.frozen? ⟨w.heap.size, i, none⟩ = false := fun i => by simp [World.frozen?, hX3]
          have HX4 : Hid (((((((((w3.setCell ⟨w.heap.size, 0, none⟩ (.slice Ab2 N2.blocks.length cb2)).setCell ⟨w.heap.size, 1, none⟩ (.slice An2 N2.next.length cn2)).setCell ⟨w.heap.size, 2, none⟩ (.slice As2 N2.spurs.length cs2)).setCell ⟨w.heap.size, 3, none⟩ (.slice Ar2 N2.robots.length cr2)).setCell ⟨w.heap.size, 4, none⟩ (.int .i64 N2.queue)).setCell ⟨w.heap.size, 5, none⟩ (.int .i64 N2.aging)).setCell ⟨w.heap.size, 6, none⟩ (.int .i64 N2.detours)).setCell ⟨w.heap.size, 7, none⟩ (.int .i64 N2.patience)).heap[w.heap.size]? = some (.cells (netCells Ab2 An2 As2 Ar2 cb2 cn2 cs2 cr2 N2) 29 (0, 0))) := Lib.hid (set8_at hX3)
          have HG4 := Lib.hid (set8_grown w3 w.heap.size (.slice Ab2 N2.blocks.length cb2) (.slice An2 N2.next.length cn2) (.slice As2 N2.spurs.length cs2) (.slice Ar2 N2.robots.length cr2) (.int .i64 N2.queue) (.int .i64 N2.aging) (.int .i64 N2.detours) (.int .i64 N2.patience))
          have HM3 := Lib.hid hM3
          have HY3 := Lib.hid hY3
          have HB3 := Lib.hid hB3
          clear hM3 hX3 hY3 hN2 HXr HYr HTr HBr hB3
          go_upto_region 9 with fail
          clear x0 x1 x2 x3 x4 x5 x6 x7 hfz
          generalize ((((((((w3.setCell ⟨w.heap.size, 0, none⟩ (.slice Ab2 N2.blocks.length cb2)).setCell ⟨w.heap.size, 1, none⟩ (.slice An2 N2.next.length cn2)).setCell ⟨w.heap.size, 2, none⟩ (.slice As2 N2.spurs.length cs2)).setCell ⟨w.heap.size, 3, none⟩ (.slice Ar2 N2.robots.length cr2)).setCell ⟨w.heap.size, 4, none⟩ (.int .i64 N2.queue)).setCell ⟨w.heap.size, 5, none⟩ (.int .i64 N2.aging)).setCell ⟨w.heap.size, 6, none⟩ (.int .i64 N2.detours)).setCell ⟨w.heap.size, 7, none⟩ (.int .i64 N2.patience)) = w4 at *
          have hz4 := HG4.out.size
          have HM4 := Lib.hid (HM3.out.rebase (w' := w4) (HM3.out.tape.grown HG4.out (fun e => by injection e with e; omega) (fun k hk => by injection hk with hk; omega)) HG4.out.size (fun k hk hlt => HG4.out.block k hlt (fun e => by injection e with e; omega)))
          have hY4 := (HG4.out.block (w.heap.size + 1) (by omega) (fun e => by injection e with e; omega)).trans HY3.out
          have hB4 := HB3.out.grown HG4.out (by omega) (fun k hk => by injection hk with hk; omega)
          have HP4 : Hid (PA w w4 gt (0 + 300) (0 + 300) wr.heap.size (wr.heap.size + 3) top N2 Ab2 An2 As2 Ar2 cb2 cn2 cs2 cr2 (.slice none 0 0) [] v0 v1 v2 w4) := Lib.hid ⟨HM4.out, fun _ _ _ => rfl, Nat.le_refl _, HM4.out.tape, HX4.out, hY4, StK.Own.nil _ _ _, hB4, by omega, by omega⟩
          have HCr2 := Lib.hid HM4.out.capR
          obtain ⟨c, hc, hc1, hc48⟩ := HO2.out.count
          have hCl := cells_c Ab2 An2 As2 Ar2 cb2 cn2 cs2 cr2 N2 w4 HM4.out.at_ HO2.out.few'
          rw [hc] at hCl
          have HCl := Lib.hid hCl
          obtain ⟨x0, x1, x2, x3, x4, x5, x6, x7⟩ := boxAt_of HX4.out
          generalize wr.heap.size = GG at *
          clear HM3 HY3 HB3 HG4 HM4 HX4 hY4 hB4 hCl hc
          go_wp2_with fail
          refine HCl.out.mono ?_
          rintro e w5 ⟨rfl, hb5⟩
          have HP5 := Lib.hid (HP4.out.keep hb5)
          clear hb5 HCl HP4 x0 x1 x2 x3 x4 x5 x6 x7
          go_wp2_with fail
          refine (next_c w.heap.size gt _ 4 w5 HP5.out.tape (by omega) (by omega) (by omega)).mono ?_
          rintro e w6 ⟨r, hr4, rfl, ht6, hg6⟩
          have HP6 := Lib.hid (HP5.out.next ht6 hg6)
          have hwk1 : IntKind.i64.wrap (1 + (r : Int)) = ((r + 1 : Nat) : Int) := by rw [IntWalk.i64_in _ (by omega)]; omega
          clear ht6 hg6 HP5
          go_wp2
          go_loopw [1, 12] (fun v iv ws => ∃ (l2 : List BodD) (k : Nat), iv = .int .i64 k ∧ 1 ≤ l2.length + k ∧ l2.length + k ≤ 4 ∧ Hid (PA w w4 gt (0 + 300) (301 + 5 * l2.length) GG (GG + 3) top N2 Ab2 An2 As2 Ar2 cb2 cn2 cs2 cr2 v l2 v0 v1 v2 ws)) (fun _ iv _ => (intOf iv).toNat)
          case atStart => exact ⟨[], r + 1, by first | rfl | (rw [hwk1]) | (simp [hwk1]), by simp, by simp; omega, Lib.hid (HP6.out.more (by simp))⟩
          case round =>
            clear HP6 hwk1
            obtain ⟨l2, k, rfl, hl1, hl4, HP⟩ := hrel
            obtain ⟨A2, d2, rfl, _⟩ := HP.out.own.form
            rcases k with _ | k
            · have hl21 : 1 ≤ l2.length := by omega
              have hli : (1 : Int) ≤ (l2.length : Int) := by omega
              go_wp2_with fail
              refine (next_c w.heap.size gt _ (l2.length : Int) _ HP.out.tape (by omega) (by omega) (by omega)).mono ?_
              rintro e w9 ⟨q1, hq1', rfl, ht9, hg9⟩
              have HP9 := Lib.hid (HP.out.next ht9 hg9)
              clear ht9 hg9 HP
              go_wp2_with fail
              refine (next_c w.heap.size gt _ 7 _ HP9.out.tape (by omega) (by omega) (by omega)).mono ?_
              rintro e w10 ⟨q2, hq2', rfl, ht10, hg10⟩
              have HP10 := Lib.hid (HP9.out.next ht10 hg10)
              clear ht10 hg10 HP9
              go_wp2_with fail
              refine (next_c w.heap.size gt _ (c : Int) _ HP10.out.tape (by omega) (by omega) (by omega)).mono ?_
              rintro e w11 ⟨q3, hq3', rfl, ht11, hg11⟩
              have HP11 := Lib.hid (HP10.out.next ht11 hg11)
              clear ht11 hg11 HP10
              obtain ⟨⟨y0, y1, y2⟩, hfy⟩ := HP11.out.vcells
              have HP12 := Lib.hid (HP11.out.vset (w' := ((w11.setCell ⟨w.heap.size + 1, 0, none⟩ (.int .i64 (q1 : Int))).setCell ⟨w.heap.size + 1, 1, none⟩ (.int .i64 (q2 : Int))).setCell ⟨w.heap.size + 1, 2, none⟩ (.int .i64 (q3 : Int))) (grown_trans (grown_trans (put_grown _ _ _ _) (put_grown _ _ _ _)) (put_grown _ _ _ _)) (set3_cells HP11.out.vb))
              have hq1n : q1 < l2.length := by omega
              obtain ⟨b2, o2, rfl, _, a12⟩ := StK.holds_at (ownsRow_holds HP12.out.own) hq1n
              obtain ⟨m0, m1, m2, m3⟩ := bod_cells a12
              obtain ⟨⟨yy0, yy1, yy2⟩, _⟩ := HP12.out.vcells
              rw [show bodS.k = 4 from rfl] at m0 m1 m2 m3
              clear a12
              generalize l2[q1] = g at *
              obtain ⟨gc, gd, gs, gf⟩ := g
              dsimp only at m0 m1 m2 m3
              go_upto_region 16 with fail
              clear y0 y1 y2 hfy HP11
              generalize ((w11.setCell ⟨w.heap.size + 1, 0, none⟩ (.int .i64 (q1 : Int))).setCell ⟨w.heap.size + 1, 1, none⟩ (.int .i64 (q2 : Int))).setCell ⟨w.heap.size + 1, 2, none⟩ (.int .i64 (q3 : Int)) = w12 at *
              have HP13 := Lib.hid (HP12.out.keep (below_newB w12 (.cells #[.int .i64 gc, .int .i64 gd, .bool gs, .bool gf] 40)))
              clear HP12
              by_cases hgc : 0 ≤ gc
              · go_wp2_with fail
                refine (next_c w.heap.size gt _ 2 _ HP13.out.tape (by omega) (by omega) (by omega)).mono ?_
                rintro e w14 ⟨s, hs2', rfl, ht14, hg14⟩
                have HP14 := Lib.hid (HP13.out.next ht14 hg14)
                clear ht14 hg14 HP13
                by_cases hs0 : s = 0
                · subst hs0
                  go_wp2_with fail
                  refine (next_c w.heap.size gt _ (c : Int) _ HP14.out.tape (by omega) (by omega) (by omega)).mono ?_
                  rintro e w15 ⟨q4, hq4', rfl, ht15, hg15⟩
                  have HP15 := Lib.hid (HP14.out.next ht15 hg15)
                  obtain ⟨⟨y0, y1, y2⟩, hfy⟩ := HP15.out.vcells
                  have HP16 := Lib.hid (HP15.out.vset (w' := w15.setCell ⟨w.heap.size + 1, 2, none⟩ (.int .i64 (q4 : Int))) (put_grown _ _ _ _) (set1_at (i := 2) HP15.out.vb))
                  have HAt := Lib.hid HP16.out.at_
                  have HHo := Lib.hid (ownsRow_holds HP16.out.own)
                  clear ht15 hg15 HP14 HP15
                  go_wp2_with fail
                  go_meet
                  case rel => exact ⟨N2, Ab2, An2, As2, Ar2, cb2, cn2, cs2, cr2, _, d2, l2, _, _, _, rfl, by omega, ⟨by omega, by omega⟩, HHo, HAt, Lib.hid HO2.out.len, HCr2, Lib.hid HP16.out.box, Lib.hid HP16.out.vb, Lib.hid HP16.out.below, fun h => by omega⟩
                · have hs0i : ((s : Int) == 0) = false := by simp; omega
                  have HAt := Lib.hid HP14.out.at_
                  have HHo := Lib.hid (ownsRow_holds HP14.out.own)
                  go_wp2_with fail
                  go_meet
                  case rel => exact ⟨N2, Ab2, An2, As2, Ar2, cb2, cn2, cs2, cr2, _, d2, l2, _, _, _, rfl, by omega, ⟨by omega, by omega⟩, HHo, HAt, Lib.hid HO2.out.len, HCr2, Lib.hid HP14.out.box, Lib.hid HP14.out.vb, Lib.hid HP14.out.below, fun h => by omega⟩
              · have HAt := Lib.hid HP13.out.at_
                have HHo := Lib.hid (ownsRow_holds HP13.out.own)
                go_wp2_with fail
                go_meet
                case rel => exact ⟨N2, Ab2, An2, As2, Ar2, cb2, cn2, cs2, cr2, _, d2, l2, _, _, _, rfl, by omega, ⟨by omega, by omega⟩, HHo, HAt, Lib.hid HO2.out.len, HCr2, Lib.hid HP13.out.box, Lib.hid HP13.out.vb, Lib.hid HP13.out.below, fun h => by omega⟩
            · have hk0 : (0 : Int) < ((k + 1 : Nat) : Int) := by omega
              have hwk : IntKind.i64.wrap (((k + 1 : Nat) : Int) - 1) = (k : Int) := by rw [IntWalk.i64_in _ (by omega)]; omega
              have hgw : gt < wr.heap.size := by have := HP.out.ord; have := HP.out.size; omega
              go_wp2_with fail
              refine (body_c w.heap.size gt _ c _ HP.out.tape (by omega) hgw hc1 (by omega)).mono ?_
              rintro e w7 ⟨q5, rfl, _, ht7, hg7⟩
              have HP7 := Lib.hid ((HP.out.next ht7 hg7).keep (below_newB w7 (.cells (BC q5) 40)))
              have HF : Hid (bodS.Arg (w7.alloc (.cells (BC q5) 40)) (.slice (some ⟨w7.heap.size, 0, none⟩) 1 1) [q5]) := Lib.hid (StK.Arg.one (StK.At.new rfl rfl) 1)
              have hs7 : w4.heap.size ≤ (w7.alloc (.cells (BC q5) 40)).heap.size := HP7.out.size
              clear ht7 hg7 HP
              go_wp2_with (at_builtin; refine StK.app_more (S := bodS) _ rfl _ _ (by rfl) w4.heap.size _ l2 (by rfl) HP7.out.own _ [q5] (by rfl) HF.out (by simp; omega) hs7 ?_)
              intro v8 w8 hO8 hg8
              have HP8 := Lib.hid ((HP7.out.app hg8 hO8).more (T' := 301 + 5 * (l2 ++ [q5]).length) (by simp; omega))
              clear hO8 hg8 HP7 HF
              go_wp2
              go_roundw
              case rel => exact ⟨l2 ++ [q5], k, by first | rfl | (rw [hwk]) | go_num, by simp; omega, by simp; omega, HP8⟩
              case measure => simp [intOf]
      case rest =>
        clear HT2 HX2 HY2
        obtain ⟨N2, Ab2, An2, As2, Ar2, cb2, cn2, cs2, cr2, A, d, l, a0, a1, a2, rfl, hll, ha1, HL, HNt, HLn2, HCr2, HX, HY, HBx, hqw⟩ := hcut
        obtain ⟨x0, x1, x2, x3, x4, x5, x6, x7⟩ := boxAt_of HX.out
        obtain ⟨y0, y1, y2⟩ := three_c HY.out
        go_wp2_with fail
        refine (cut_c a1 7 wc (by omega) (by omega) ha1.1 ha1.2).mono ?_
        rintro e w3 ⟨r, hr7, rfl, hw⟩
        subst hw
        generalize wc = u0 at *
        go_upto_region 21 with fail
        go_cut [85] from 80 to 85 (fun s wx => s = .bool (decide (¬ ((r : Int) = 0 ∨ (r : Int) = 1))) ∧ wx = u0)
        case first =>
          by_cases h0 : (r : Int) = 0
          · have e1 : ((r : Int) != 0) = false := by simp [h0]
            go_wp2_with fail
            go_meet
            case rel => exact ⟨by simp [h0], rfl⟩
          · have e1 : ((r : Int) != 0) = true := by simpa using h0
            by_cases h1 : (r : Int) = 1
            · have e2 : ((r : Int) != 1) = false := by simp [h1]
              go_wp2_with fail
              go_meet
              case rel => exact ⟨by simp [h1], rfl⟩
            · have e2 : ((r : Int) != 1) = true := by simpa using h1
              go_wp2_with fail
              go_meet
              case rel => exact ⟨by have hno : ¬ ((r : Int) = 0 ∨ (r : Int) = 1) := fun h => h.elim h0 h1; simp only [hno, not_false_eq_true, decide_true], rfl⟩
        case rest =>
          obtain ⟨rfl, hw⟩ := hcut
          subst hw
          generalize wc = u1 at *
          go_upto_if 85 with fail
          go_cut [15] from 85 to 85 (fun s wx => s = .int .i64 (aC (r : Int) a2) ∧ wx = u1)
          case first =>
            by_cases h : (r : Int) = 0 ∨ (r : Int) = 1
            · have e1 : decide (¬ ((r : Int) = 0 ∨ (r : Int) = 1)) = false := by simp only [h, not_true_eq_false, decide_false]
              have e2 : aC (r : Int) a2 = a2 := if_pos h
              have HE2 := Lib.hid e2
              clear e2
              go_wp2_with fail
              go_meet
              case rel => exact ⟨by rw [HE2.out], rfl⟩
            · have e1 : decide (¬ ((r : Int) = 0 ∨ (r : Int) = 1)) = true := by simp only [h, not_false_eq_true, decide_true]
              have e2 : aC (r : Int) a2 = 0 := if_neg h
              have HE2 := Lib.hid e2
              clear e2
              go_wp2_with fail
              go_meet
              case rel => exact ⟨by rw [HE2.out], rfl⟩
          case rest =>
            obtain ⟨rfl, hw⟩ := hcut
            subst hw
            obtain ⟨res, hF, hG⟩ := follows_pair Ab2 An2 As2 Ar2 cb2 cn2 cs2 cr2 N2 (bodAt l a0).cel (aC (r : Int) a2) wc HNt.out HLn2.out HCr2.out
            have hA := act_c Ab2 An2 As2 Ar2 cb2 cn2 cs2 cr2 N2 A d l.length l rfl a0 (r : Int) (aC (r : Int) a2) res wc HL.out hll ⟨by omega, by omega⟩ hF
            rw [aC_idem] at hA
            have hD := fun W (hW : Below wc.heap.size wc W) => refDo_c Ab2 An2 As2 Ar2 A cb2 cn2 cs2 cr2 l.length d N2 l rfl a0 (r : Int) (aC (r : Int) a2) res W (HL.out.keep hW) hll (fun W2 hW2 => hG W2 (hW.trans (hW2.mono hW.size)))
            have hLl := doL_len res l a0 (r : Int) (aC (r : Int) a2)
            generalize doE res l a0 (r : Int) (aC (r : Int) a2) = E at *
            generalize doL res l a0 (r : Int) (aC (r : Int) a2) = L at *
            have HA := Lib.hid hA
            have HD := Lib.hid hD
            have HXw := Lib.hid (fun W (hW : Below wc.heap.size wc W) => boxAt_of ((hW.block _ (block_lt HX.out)).trans HX.out))
            have HYw := Lib.hid (fun W (hW : Below wc.heap.size wc W) => three_c ((hW.block _ (block_lt HY.out)).trans HY.out))
            have HBw := Lib.hid (fun W (hW : Below wc.heap.size wc W) => HBx.out.trans (hW.mono HBx.out.size))
            clear hF hG hA hD HNt HLn2 HCr2 HL HX HY HBx
            generalize aC (r : Int) a2 = ac at *
            go_wp2_with fail
            refine HA.out.mono ?_
            rintro e w4 ⟨v4, rfl, ho4, hb4⟩
            obtain ⟨A4, d4, rfl, _⟩ := ho4.form
            have HO4 := Lib.hid (ownsRow_holds ho4)
            have HB4 := Lib.hid hb4
            clear ho4 hb4 HA x0 x1 x2 x3 x4 x5 x6 x7 y0 y1 y2
            obtain ⟨x0, x1, x2, x3, x4, x5, x6, x7⟩ := HXw.out _ HB4.out
            obtain ⟨y0, y1, y2⟩ := HYw.out _ HB4.out
            go_wp2_with fail
            refine (HD.out w4 HB4.out).mono ?_
            rintro e w5 ⟨v5, rfl, ho5, hb5⟩
            obtain ⟨A5, d5, rfl, _⟩ := ho5.form
            have HB5 := Lib.hid (HB4.out.trans (hb5.mono HB4.out.size))
            have HS := Lib.hid (refSameB_c A4 A5 d4 d5 L.length L rfl w5 (HO4.out.keep hb5) (ownsRow_holds ho5) (by omega))
            have nE : (E != E) = false := by simp
            clear ho5 hb5 HD HO4 HB4 HXw HYw x0 x1 x2 x3 x4 x5 x6 x7 y0 y1 y2
            go_wp2_with fail
            refine HS.out.mono ?_
            rintro e w6 ⟨rfl, n6, rfl⟩
            have HB6 := Lib.hid (below_drewN HB5.out n6)
            clear HS HB5
            go_wp2
            go_roundw
            case rel => exact ⟨q + 1, by go_num, by omega, (fun h => by omega), (fun h => Lib.hid (by have e := hqw (by omega); subst e; exact HB6.out)), Lib.hid (HBw.out _ HB6.out)⟩
            case measure => simp [intOf]; omega
    · have hqi : ¬ (q : Int) < 2 := by omega
      clear hq0 hq1
      go_wp2
      go_ret
      exact ⟨rfl, HBr.out⟩
end Go.Proofs.Ytjbhmeeebacnpaa
