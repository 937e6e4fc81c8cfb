/- Contract of the reference's Do of layer 16. -/
import Derived.Test.YtjbhmeeebacnpaaPnChg
namespace Go.Proofs.Ytjbhmeeebacnpaa
open Go Go.RowKit Fl

theorem StK.Own.blk {α : Type} {S : StK α} {w : World} {base : Nat} {v : Value} {l : List α} (h : S.Own w base v l) (hl : 0 < l.length) : ∃ g c, v = .slice (some ⟨g, 0, none⟩) l.length c ∧ base ≤ g ∧ g < w.heap.size := by
  obtain ⟨_, h2⟩ := h
  rcases h2 with ⟨_, he⟩ | ⟨g, cap, cur, hv, hg, hh, _⟩
  · omega
  · exact ⟨g, cap, hv, hg, block_lt hh⟩
theorem okB_all (fol : Bool) (b : BodD) (a : Int) : okB fol b a = true ∨ okB fol b a = false := by cases okB fol b a <;> simp
set_option maxRecDepth 100000 in
set_option maxHeartbeats 2000000 in
theorem refDo_c (Ab An As Ar A : Option Addr) (cb cn cs cr n cap : Nat) (N : NetD) (l : List BodD) (hn : l.length = n) (r a c : Int) (fol : Bool) (w : World) (hh : Holds w A (bodS.cs l)) (hn6 : n ≤ 5864062014805)
    (hF : ∀ W, Below w.heap.size w W → Calls Try.prog 53 #[.agg #[.slice Ab N.blocks.length cb, .slice An N.next.length cn, .slice As N.spurs.length cs, .slice Ar N.robots.length cr, Iv N.queue, Iv N.aging, Iv N.detours, Iv N.patience], .int .i64 (bodAt l r).cel, .int .i64 c] W fun e w' => e = .returned (.bool fol) ∧ Below W.heap.size W w') :
    Calls Try.prog 14 #[.agg #[.slice Ab N.blocks.length cb, .slice An N.next.length cn, .slice As N.spurs.length cs, .slice Ar N.robots.length cr, Iv N.queue, Iv N.aging, Iv N.detours, Iv N.patience], .slice A n cap, .int .i64 r, .int .i64 a, .int .i64 c] w
      fun e w' => ∃ v, e = .returned (.tuple #[v, .int .i64 (doE fol l r a c)]) ∧ bodS.Own w' w.heap.size v (doL fol l r a c) ∧ Below w.heap.size w w' := by
  subst hn
  have HB0 := Lib.hid (below_newB w (.cells (netCells Ab An As Ar cb cn cs cr N) 29))
  by_cases hr : rangeB l r c
  · have hr' := hr
    obtain ⟨r0, rn, c0, c48⟩ := hr'
    obtain ⟨i, rfl⟩ := Int.eq_ofNat_of_zero_le r0
    have hi : i < l.length := by omega
    have hC := fun W (hW : Below w.heap.size w W) => refChange_c Ab An As Ar cb cn cs cr N (bodAt l i) a c fol W (fun W' hW' => hF W' (hW.trans (hW'.mono hW.size)))
    have HO1 : Hid (okB fol (bodAt l i) a = false → doE fol l i a c = 24 ∧ doL fol l i a c = []) := Lib.hid (fun h => do_no hr h)
    have HO2 : Hid (okB fol (bodAt l i) a = true → doE fol l i a c = 0 ∧ doL fol l i a c = l.set i (chgB (bodAt l i) a c)) := Lib.hid (fun h => by have := do_ok hr h; rwa [Int.toNat_natCast] at this)
    obtain ⟨b, o, rfl, _, a1⟩ := StK.holds_at hh hi
    rw [← bodAt_nat hi] at a1
    have hx := fun W (hW : Below w.heap.size w W) => bod_cells (a1.keep hW)
    have HX : Hid (∀ W, Below w.heap.size w W → W.heap[w.heap.size]? = some (.cells (netCells Ab An As Ar cb cn cs cr N) 29 (0, 0)) → True) := Lib.hid (fun _ _ _ => trivial)
    clear HX hr hF
    obtain ⟨x0, x1, x2, x3⟩ := hx _ HB0.out
    have xa := fun ob => hx _ (HB0.out.alloc (by simp) ob)
    have hX0 : (w.alloc (.cells (netCells Ab An As Ar cb cn cs cr N) 29)).heap[w.heap.size]? = some (.cells (netCells Ab An As Ar cb cn cs cr N) 29 (0, 0)) := heap_alloc_new w _
    generalize hz : okB fol (bodAt l i) a = z at *
    generalize chgB (bodAt l i) a c = q at *
    clear hz
    generalize bodAt l i = f at *
    obtain ⟨cel, dst, srv, flt⟩ := f
    obtain ⟨qc, qd, qs, qf⟩ := q
    rw [show bodS.k = 4 from rfl] at x0 x1 x2 x3
    dsimp only at x0 x1 x2 x3
    have xa0 := fun ob => (xa ob).1
    have xa1 := fun ob => (xa ob).2.1
    have xa2 := fun ob => (xa ob).2.2.1
    have xa3 := fun ob => (xa ob).2.2.2
    rw [show bodS.k = 4 from rfl] at xa0 xa1 xa2 xa3
    dsimp only at xa0 xa1 xa2 xa3
    clear xa
    have HC := Lib.hid hC
    have HH := Lib.hid hh
    clear hC a1 hx hh
    go_enter Try.func14, Try.ntmps14
    go_wp2_with fail
    generalize (w.alloc (.cells (netCells Ab An As Ar cb cn cs cr N) 29)) = w1 at *
    obtain ⟨g0, g1, g2, g3, g4, g5, g6, g7⟩ := boxAt_of hX0
    have ga := fun ob => boxAt_of ((heap_alloc_old w1 ob (block_lt hX0)).trans hX0)
    have ga0 := fun ob => (ga ob).c0
    have ga1 := fun ob => (ga ob).c1
    have ga2 := fun ob => (ga ob).c2
    have ga3 := fun ob => (ga ob).c3
    have ga4 := fun ob => (ga ob).c4
    have ga5 := fun ob => (ga ob).c5
    have ga6 := fun ob => (ga ob).c6
    have ga7 := fun ob => (ga ob).c7
    clear ga hX0
    rename_i Q1 K1 hK1
    have HK : Hid (∀ a w, _ → K1 a w) := Lib.hid hK1
    clear hK1
    have hs1 : w.heap.size ≤ w1.heap.size := HB0.out.size
    go_region_with (go_at_call 32; refine (HC.out _ (by repeat (first | (with_reducible exact HB0.out) | (with_reducible refine Below.drew ?_) | exact (HB0.out.alloc hs1 _) | exact (HB0.out.alloc hs1 _).drew | exact (HB0.out.drew.alloc hs1 _)))).mono ?_; rintro e w4 ⟨rfl, hb4⟩; (first | (have hx9 : w4.heap[w1.heap.size]? = some (.cells #[.int .i64 0, .int .i64 0, .bool false, .bool false] 40 (0, 0)) := (hb4.block _ (by simp)).trans (by first | exact heap_alloc_new w1 _ | exact heap_alloc_new w1.drew _); have HG9 : Hid (BodAt w4 w1.heap.size zeroB) := Lib.hid hx9; obtain ⟨y0, y1, y2, y3⟩ := HG9.out.cell; have fg := HG9.out.frozen; clear hx9) | skip); have HB4 : Hid (Below w.heap.size w w4) := Lib.hid (by first | exact HB0.out.trans (hb4.mono hs1) | exact HB0.out.drew.trans (hb4.mono hs1) | exact (HB0.out.alloc hs1 _).trans (hb4.mono (by simp; omega)) | exact (HB0.out.alloc hs1 _).drew.trans (hb4.mono (by simp; omega)) | exact (HB0.out.drew.alloc hs1 _).trans (hb4.mono (by simp; omega))); clear hb4)
    all_goals refine HK.out _ _ ?_
    all_goals (first
      | (have HG5 : Hid (BodAt ((((w4.setCell ⟨w1.heap.size, 0, none⟩ (.int .i64 qc)).setCell ⟨w1.heap.size, 1, none⟩ (.int .i64 qd)).setCell ⟨w1.heap.size, 2, none⟩ (.bool qs)).setCell ⟨w1.heap.size, 3, none⟩ (.bool qf)) w1.heap.size ⟨qc, qd, qs, qf⟩) := Lib.hid (HG9.out.put4 ⟨qc, qd, qs, qf⟩)
         have HB5 : Hid (Below w.heap.size w ((((w4.setCell ⟨w1.heap.size, 0, none⟩ (.int .i64 qc)).setCell ⟨w1.heap.size, 1, none⟩ (.int .i64 qd)).setCell ⟨w1.heap.size, 2, none⟩ (.bool qs)).setCell ⟨w1.heap.size, 3, none⟩ (.bool qf))) := Lib.hid (below_put (below_put (below_put (below_put HB4.out hs1) hs1) hs1) hs1)
         clear HG9 fg y0 y1 y2 y3
         generalize ((((w4.setCell ⟨w1.heap.size, 0, none⟩ (.int .i64 qc)).setCell ⟨w1.heap.size, 1, none⟩ (.int .i64 qd)).setCell ⟨w1.heap.size, 2, none⟩ (.bool qs)).setCell ⟨w1.heap.size, 3, none⟩ (.bool qf)) = w5 at *
         generalize w1.heap.size = Y at *)
      | (have HG5 : Hid (BodAt (w4.alloc (.cells #[.int .i64 qc, .int .i64 qd, .bool qs, .bool qf] 40)) w4.heap.size ⟨qc, qd, qs, qf⟩) := Lib.hid (heap_alloc_new w4 _)
         have HB5 : Hid (Below w.heap.size w (w4.alloc (.cells #[.int .i64 qc, .int .i64 qd, .bool qs, .bool qf] 40))) := Lib.hid (HB4.out.alloc HB4.out.size _)
         generalize (w4.alloc (.cells #[.int .i64 qc, .int .i64 qd, .bool qs, .bool qf] 40)) = w5 at *
         generalize w4.heap.size = Y at *))
    all_goals clear HK HB4 HC hs1 g0 g1 g2 g3 g4 g5 g6 g7 ga0 ga1 ga2 ga3 ga4 ga5 ga6 ga7 x0 x1 x2 x3 xa0 xa1 xa2 xa3
    all_goals
      have HA5 : Hid (bodS.Arg w5 (.slice (some ⟨b, o, none⟩) l.length cap) l) := Lib.hid (StK.Arg.all (HH.out.keep HB5.out) cap)
      obtain ⟨y0, y1, y2, y3⟩ := HG5.out.cell
      rcases z with _ | _
      · have HE := Lib.hid (HO1.out rfl)
        clear HO1 HO2
        go_wp2
        go_ret2
        exact ⟨_, by rw [HE.out.1]; rfl, by rw [HE.out.2]; exact StK.Own.nil _ _ _, HB5.out⟩
      · have HE := Lib.hid (HO2.out rfl)
        clear HO1 HO2
        go_wp2_with (at_builtin; refine StK.app_moreB (S := bodS) _ rfl _ _ (by rfl) w.heap.size _ [] (by rfl) (StK.Own.nil _ _ _) _ l (by rfl) HA5.out (by simp; unfold maxLen; omega) (by rw [show bodS.bytes = 24 from rfl]; simp; omega) HB5.out.size ?_)
        intro v2 w2 hO2 hg2
        obtain ⟨g, c2, rfl, hbg, hgw⟩ := hO2.blk (by omega)
        have HB6 := Lib.hid (HB5.out.grown hg2 HB5.out.size (fun k hk => by simp [Value.ownBlock] at hk))
        have HG6 : Hid (BodAt w2 Y ⟨qc, qd, qs, qf⟩) := Lib.hid ((hg2.block Y (block_lt HG5.out) (by simp [Value.ownBlock])).trans HG5.out)
        clear y0 y1 y2 y3
        obtain ⟨y0, y1, y2, y3⟩ := HG6.out.cell
        obtain ⟨ha, hf⟩ := hO2.get rfl hi
        obtain ⟨v0, v1, v2, v3⟩ := bod_cells ha
        have f0 : w2.frozen? ⟨g, i * 4, none⟩ = false := hf 0 (by decide)
        have f1 : w2.frozen? ⟨g, i * 4 + 1, none⟩ = false := hf 1 (by decide)
        have f2 : w2.frozen? ⟨g, i * 4 + 2, none⟩ = false := hf 2 (by decide)
        have f3 : w2.frozen? ⟨g, i * 4 + 3, none⟩ = false := hf 3 (by decide)
        rw [show bodS.k = 4 from rfl] at v0 v1 v2 v3
        have HS6 := Lib.hid (hO2.set hi ⟨qc, qd, qs, qf⟩)
        have HP6 := Lib.hid (StK.puts_below hbg (bodS.f ⟨qc, qd, qs, qf⟩) w2 (i * bodS.k) HB6.out)
        generalize l[i] = li at *
        obtain ⟨ic, id, is, iff⟩ := li
        dsimp only at v0 v1 v2 v3
        clear ha hf hO2 hg2 HA5 HG5 HB5 HG6
        go_wp2
        go_ret2
        exact ⟨_, by rw [HE.out.1]; rfl, by rw [HE.out.2]; exact HS6.out, HP6.out⟩
  · have HE := Lib.hid (do_range (fol := fol) (a := a) hr)
    rw [HE.out.1, HE.out.2]
    have hr2 : r < 0 ∨ (l.length : Int) ≤ r ∨ c < 0 ∨ 48 ≤ c := by
      unfold rangeB at hr
      omega
    clear hr hF hh HE
    by_cases h1 : r < 0
    · go_enter Try.func14, Try.ntmps14
      go_wp2
      go_ret2
      exact ⟨_, rfl, StK.Own.nil _ _ _, HB0.out⟩
    · by_cases h2 : (l.length : Int) ≤ r
      · go_enter Try.func14, Try.ntmps14
        go_wp2
        go_ret2
        exact ⟨_, rfl, StK.Own.nil _ _ _, HB0.out⟩
      · by_cases h3 : c < 0
        · go_enter Try.func14, Try.ntmps14
          go_wp2
          go_ret2
          exact ⟨_, rfl, StK.Own.nil _ _ _, HB0.out⟩
        · have h4 : 48 ≤ c := by omega
          go_enter Try.func14, Try.ntmps14
          go_wp2
          go_ret2
          exact ⟨_, rfl, StK.Own.nil _ _ _, HB0.out⟩
end Go.Proofs.Ytjbhmeeebacnpaa
