/- Drive of agent. -/
import Derived.Test.YtmdnkpiihhaoeaaMzAY
namespace Go.Proofs.Ytmdnkpiihhaoeaa
open Go Go.RowKit Fl

theorem beg_t {a : AgtD} {b : BodD} {fol : Bool} (hf : fol = true → 0 ≤ a.dst ∧ a.dst < 48) (h : begsB fol a b = true) : doE fol [b] 0 1 a.dst = 0 ∧ doL fol [b] 0 1 a.dst = [⟨b.cel, a.dst, b.srv, b.flt⟩] := by
  unfold begsB at h
  simp only [Bool.and_eq_true] at h
  obtain ⟨⟨h1, _⟩, h3⟩ := h
  have hr := hf h3
  exact do_ok (fol := fol) (a := 1) ⟨by decide, by simp, hr.1, hr.2⟩ (show (restB b && fol) = true by rw [h1, h3]; rfl)
theorem beg_f {a : AgtD} {b : BodD} {fol : Bool} (h : begsB fol a b = false) : doE fol [b] 0 1 a.dst ≠ 0 ∧ doL fol [b] 0 1 a.dst = [] := by
  by_cases hr : rangeB [b] 0 a.dst
  · have h2 : okB fol (bodAt [b] 0) 1 = false := by
      show (restB b && fol) = false
      unfold begsB at h
      have hd : decide (a.dst ≠ -1) = true := decide_eq_true (by have := hr.2.2.1; omega)
      rw [hd, Bool.and_true] at h
      exact h
    obtain ⟨e1, e2⟩ := do_no (fol := fol) (a := 1) hr h2
    exact ⟨by rw [e1]; decide, e2⟩
  · obtain ⟨e1, e2⟩ := do_range (fol := fol) (a := 1) hr
    exact ⟨by rw [e1]; decide, e2⟩
theorem ends_yes {a : AgtD} {r : Int} {b : BodD} {fol : Bool} (h : endsB b = true) : driveA a b = ⟨a.las, -1, a.srv, 1, b.dst⟩ ∧ driveB fol a b = ⟨b.dst, -1, b.srv || a.srv, b.flt⟩ ∧ driveL a r b = [repF ⟨a.las, -1, a.srv, 1, b.dst⟩ r] := ⟨if_pos h, if_pos h, if_pos h⟩
theorem ends_no {a : AgtD} {r : Int} {b : BodD} {fol : Bool} (h : endsB b = false) : driveA a b = a ∧ driveB fol a b = (if begsB fol a b = true then ⟨b.cel, a.dst, b.srv, b.flt⟩ else b) ∧ driveL a r b = [] := ⟨if_neg (by rw [h]; decide), if_neg (by rw [h]; decide), if_neg (by rw [h]; decide)⟩
theorem begs_yes {a : AgtD} {r : Int} {b : BodD} {fol : Bool} (h : endsB b = false) (h2 : begsB fol a b = true) : driveA a b = a ∧ driveB fol a b = ⟨b.cel, a.dst, b.srv, b.flt⟩ ∧ driveL a r b = [] := by
  obtain ⟨e1, e2, e3⟩ := ends_no (a := a) (r := r) (fol := fol) h
  exact ⟨e1, e2.trans (if_pos h2), e3⟩
theorem begs_no {a : AgtD} {r : Int} {b : BodD} {fol : Bool} (h : endsB b = false) (h2 : begsB fol a b = false) : driveA a b = a ∧ driveB fol a b = b ∧ driveL a r b = [] := by
  obtain ⟨e1, e2, e3⟩ := ends_no (a := a) (r := r) (fol := fol) h
  exact ⟨e1, e2.trans (if_neg (by rw [h2]; decide)), e3⟩
theorem AgAt.put1 {w : World} {b : Nat} {las dst rpt cel v : Int} {srv : Bool} (h : AgAt w b ⟨las, dst, srv, rpt, cel⟩) : AgAt (w.setCell ⟨b, 1, none⟩ (.int .i64 v)) b ⟨las, v, srv, rpt, cel⟩ := by
  unfold AgAt at h ⊢
  simp [World.setCell, Array.getElem?_modify, h]
theorem one_grown (W : World) (X i : Nat) (v : Value) : W.grownBy (W.setCell ⟨X, i, none⟩ v) (some X) := grown_put (Below.refl W.heap.size W) (Nat.le_refl _)
set_option maxRecDepth 100000 in
set_option maxHeartbeats 8000000 in
theorem drive_c (Ab An As Ar : Option Addr) (cb cn cs cr : Nat) (N : NetD) (a : AgtD) (r : Int) (b : BodD) (fol : Bool) (w : World) (hfol : fol = true → 0 ≤ a.dst ∧ a.dst < 48)
    (hF : ∀ W, Below w.heap.size w W → Calls Try.prog 24 #[.agg #[.slice Ab N.blocks.length cb, .slice An N.next.length cn, .slice As N.spurs.length cs, .slice Ar N.robots.length cr, Iv N.queue, Iv N.aging, Iv N.detours, Iv N.patience], .int .i64 b.cel, .int .i64 a.dst] W fun e w' => e = .returned (.bool fol) ∧ Below W.heap.size W w') :
    Calls Try.prog 18 #[.agg #[.slice Ab N.blocks.length cb, .slice An N.next.length cn, .slice As N.spurs.length cs, .slice Ar N.robots.length cr, Iv N.queue, Iv N.aging, Iv N.detours, Iv N.patience], AV a, .int .i64 r, BV b] w (ABFPost w (driveA a b) (driveB fol a b) (driveL a r b)) := by
  have s1 : (w.alloc (.cells (netCells Ab An As Ar cb cn cs cr N) 29)).heap.size = w.heap.size + 1 := by simp
  have hT := five_ab (w.alloc (.cells (netCells Ab An As Ar cb cn cs cr N) 29)) a b
  rw [s1] at hT
  have HT := Lib.hid hT
  have HP := Lib.hid (fun k W (hh : Holds W (some ⟨k, 0, none⟩) (bodS.cs [b])) => devEnd_c (some ⟨k, 0, none⟩) 1 1 [b] rfl 0 false W hh (by decide))
  have HPB := Lib.hid (fun W (hW : Below w.heap.size w W) (hh : Holds W (some ⟨w.heap.size + 1 + 1 + 1 + 1 + 1 + 1, 0, none⟩) (bodS.cs [b])) => devBegin_c Ab An As Ar cb cn cs cr N (some ⟨w.heap.size + 1 + 1 + 1 + 1 + 1 + 1, 0, none⟩) 1 1 [b] rfl 0 a.dst fol W hh (by decide) (fun W2 hW2 => hF W2 (hW.trans (hW2.mono hW.size))))
  have HC := Lib.hid (fun k W (hb : An0 W k) => reported_c ⟨a.las, -1, a.srv, a.rpt, a.cel⟩ r 1 b.dst k W hb)
  have HFT := Lib.hid (end_t (b := b) false)
  have HFF := Lib.hid (end_f (b := b) false)
  have HBT := Lib.hid (beg_t (a := a) (b := b) hfol)
  have HBF := Lib.hid (beg_f (a := a) (b := b) (fol := fol))
  have HRT := Lib.hid (ends_yes (a := a) (r := r) (b := b) (fol := fol))
  have HRY0 := Lib.hid (begs_yes (a := a) (r := r) (b := b) (fol := fol))
  have HRN0 := Lib.hid (begs_no (a := a) (r := r) (b := b) (fol := fol))
  unfold RptPost at HC
  clear hT s1 hF hfol
  generalize driveL a r b = L at *
  generalize driveA a b = R at *
  generalize driveB fol a b = Q at *
  generalize doE false [b] 0 2 0 = E at *
  generalize doL false [b] 0 2 0 = M at *
  generalize doE fol [b] 0 1 a.dst = E2 at *
  generalize doL fol [b] 0 1 a.dst = M2 at *
  generalize endsB b = z at *
  obtain ⟨las, dst, srv, rpt, cel⟩ := a
  obtain ⟨bc, bd, bs, bf⟩ := b
  have HG0 : Hid (Below w.heap.size w (w.alloc (.cells (netCells Ab An As Ar cb cn cs cr N) 29)) ∧ (w.alloc (.cells (netCells Ab An As Ar cb cn cs cr N) 29)).heap[w.heap.size]? = some (.cells (netCells Ab An As Ar cb cn cs cr N) 29 (0, 0))) := Lib.hid ⟨below_newF w _, heap_alloc_new w _⟩
  go_enter Try.func18, Try.ntmps18
  go_wp2_with fail
  have hs5 : ((((((w.alloc (.cells (netCells Ab An As Ar cb cn cs cr N) 29)).alloc (.cells (AC ⟨las, dst, srv, rpt, cel⟩) 32)).alloc (.cells (BC ⟨bc, bd, bs, bf⟩) 34)).alloc (.cells (AC ⟨0, 0, false, 0, 0⟩) 32)).alloc (.cells (BC ⟨0, 0, false, false⟩) 34)).alloc (.cells #[.slice none 0 0] 72)).heap.size = w.heap.size + 1 + 1 + 1 + 1 + 1 + 1 := by simp
  generalize ((((((w.alloc (.cells (netCells Ab An As Ar cb cn cs cr N) 29)).alloc (.cells (AC ⟨las, dst, srv, rpt, cel⟩) 32)).alloc (.cells (BC ⟨bc, bd, bs, bf⟩) 34)).alloc (.cells (AC ⟨0, 0, false, 0, 0⟩) 32)).alloc (.cells (BC ⟨0, 0, false, false⟩) 34)).alloc (.cells #[.slice none 0 0] 72)) = w5 at *
  have hh5 := ownsRow_holds (holds_one (BodAt.new w5 ⟨bc, bd, bs, bf⟩))
  rw [hs5] at hh5
  refine (HP.out _ _ hh5).mono ?_
  rintro e w7 ⟨v, rfl, ho, hb7⟩
  obtain ⟨t1, t2, t3, t4, t5, t6⟩ := HT.out
  have hn7 : (w.alloc (.cells (netCells Ab An As Ar cb cn cs cr N) 29)).heap.size = w.heap.size + 1 := by simp
  have hb5 : Below w5.heap.size w5 w7 := (below_newF w5 _).trans (hb7.mono (by simp))
  have HA := Lib.hid (t1.keep hb5)
  have HB := Lib.hid (t2.keep hb5)
  have HZ := Lib.hid (t3.keep hb5)
  have HY := Lib.hid (t4.keep hb5)
  have HS := Lib.hid (t5.keep hb5)
  have HW : Hid (Below w.heap.size w w7) := Lib.hid ((HG0.out.1.trans (t6.mono (by omega))).trans (hb5.mono (by omega)))
  have HG : Hid (w7.heap[w.heap.size]? = some (.cells (netCells Ab An As Ar cb cn cs cr N) 29 (0, 0))) := Lib.hid (((t6.trans (hb5.mono (by omega))).block _ (by omega)).trans HG0.out.2)
  have HO := Lib.hid (show bodS.Own w7 (w.heap.size) v M from ho.base (by simp; omega))
  have HO7 := Lib.hid (hh5.keep hb7)
  clear t1 t2 t3 t4 t5 t6 hb5 hb7 ho hh5 HT HP HG0 hn7
  rcases z with _ | _
  · have HRY := Lib.hid (HRY0.out rfl)
    have HRN := Lib.hid (HRN0.out rfl)
    obtain ⟨rfl, rfl⟩ := HFF.out rfl
    obtain ⟨A7, c7, rfl, _⟩ := HO.out.form
    clear HRT HRY0 HRN0 HFT HFF HC HO
    have s0 := HS.out.cell0
    obtain ⟨n0, n1, n2, n3, n4, n5, n6, n7⟩ := boxAt_of HG.out
    obtain ⟨x0, x1, x2, x3, x4⟩ := HA.out.cell
    obtain ⟨y0, y1, y2, y3⟩ := HB.out.cell
    obtain ⟨z0, z1, z2, z3, z4⟩ := HZ.out.cell
    obtain ⟨u0, u1, u2, u3⟩ := HY.out.cell
    have xf := HA.out.frozen
    have yf := HB.out.frozen
    have zf := HZ.out.frozen
    have uf := HY.out.frozen
    go_wp2_with fail
    have hsz7 := HW.out.size
    refine (HPB.out w7 (HW.out) HO7.out).mono ?_
    rintro e w8 ⟨v, rfl, ho, hb8⟩
    replace HA := Lib.hid (HA.out.keep hb8)
    replace HB := Lib.hid (HB.out.keep hb8)
    replace HZ := Lib.hid (HZ.out.keep hb8)
    replace HY := Lib.hid (HY.out.keep hb8)
    replace HS := Lib.hid (HS.out.keep hb8)
    replace HW := Lib.hid (HW.out.trans (hb8.mono HW.out.size))
    have HO := Lib.hid (show bodS.Own w8 (w.heap.size) v M2 from ho.base hsz7)
    clear ho hb8 HPB HO7
    clear x0 x1 x2 x3 x4 y0 y1 y2 y3 z0 z1 z2 z3 z4 u0 u1 u2 u3 xf yf zf uf
    clear n0 n1 n2 n3 n4 n5 n6 n7 s0
    obtain ⟨y, hy⟩ : ∃ y, begsB fol ⟨las, dst, srv, rpt, cel⟩ ⟨bc, bd, bs, bf⟩ = y := ⟨_, rfl⟩
    rcases y with _ | _
    · have HR := Lib.hid (HRN.out hy)
      obtain ⟨hE, rfl⟩ := HBF.out hy
      have hE' : (E2 == 0) = false := by simpa using hE
      obtain ⟨A7, c7, rfl, _⟩ := HO.out.form
      clear HRY HRN HBT HBF HO hE hy
      have s0 := HS.out.cell0
      obtain ⟨x0, x1, x2, x3, x4⟩ := HA.out.cell
      obtain ⟨y0, y1, y2, y3⟩ := HB.out.cell
      obtain ⟨z0, z1, z2, z3, z4⟩ := HZ.out.cell
      obtain ⟨u0, u1, u2, u3⟩ := HY.out.cell
      have xf := HA.out.frozen
      have yf := HB.out.frozen
      have zf := HZ.out.frozen
      have uf := HY.out.frozen
      go_upto_region 12 with fail
      obtain ⟨e1, e2, e3⟩ := HR.out
      subst e1 e2 e3
      have HE := Lib.hid (both_after HZ.out HY.out (by omega) HW.out (by omega) (by omega) (own_nilF _ (w.heap.size + 1 + 1 + 1 + 1 + 1 + 1)) (by omega) (by omega) ⟨las, dst, srv, rpt, cel⟩ ⟨bc, bd, bs, bf⟩)
      go_region
      all_goals
        go_wp2
        refine bodyPost_ret (results_agb rfl _ _ _ _ ⟨las, dst, srv, rpt, cel⟩ ⟨bc, bd, bs, bf⟩ (.slice none 0 0) rfl ?_ rfl ?_ rfl) rfl ⟨(.slice none 0 0), rfl, ?_, ?_⟩
        all_goals first | with_reducible exact HE.out.1.1 | with_reducible exact HE.out.1.2.1 | with_reducible exact HE.out.1.2.2.1 | with_reducible exact HE.out.1.2.2.2 | with_reducible exact HE.out.2.1 | with_reducible exact HE.out.2.2.1 | with_reducible exact HE.out.2.2.2.1 | with_reducible exact HE.out.2.2.2.2
    · have HR := Lib.hid (HRY.out hy)
      obtain ⟨rfl, rfl⟩ := HBT.out hy
      obtain ⟨A7, c7, rfl, _⟩ := HO.out.form
      obtain ⟨b7, o7, rfl, p0, p1, p2, p3⟩ := one_cells (ownsRow_holds HO.out)
      clear HRY HRN HBT HBF HO hy
      dsimp only at p0 p1 p2 p3
      obtain ⟨x0, x1, x2, x3, x4⟩ := HA.out.cell
      obtain ⟨y0, y1, y2, y3⟩ := HB.out.cell
      obtain ⟨z0, z1, z2, z3, z4⟩ := HZ.out.cell
      obtain ⟨u0, u1, u2, u3⟩ := HY.out.cell
      have xf := HA.out.frozen
      have yf := HB.out.frozen
      have zf := HZ.out.frozen
      have uf := HY.out.frozen
      go_upto_region 12 with fail
      have hg := put4B_grown w8 (w.heap.size + 1 + 1) ⟨bc, dst, bs, bf⟩
      have hnB : BodAt (put4B w8 (w.heap.size + 1 + 1) ⟨bc, dst, bs, bf⟩) (w.heap.size + 1 + 1) ⟨bc, dst, bs, bf⟩ := HB.out.put4 ⟨bc, dst, bs, bf⟩
      replace HB := Lib.hid hnB
      replace HA := Lib.hid (HA.out.grown hg (fun e => by injection e with e; omega))
      replace HZ := Lib.hid (HZ.out.grown hg (fun e => by injection e with e; omega))
      replace HY := Lib.hid (BodAt.grown HY.out hg (fun e => by injection e with e; omega))
      replace HS := Lib.hid (HS.out.grown hg (fun e => by injection e with e; omega))
      replace HW := Lib.hid (put4B_below (X := w.heap.size + 1 + 1) (b := ⟨bc, dst, bs, bf⟩) HW.out (by omega))
      change Code.wp _ _ _ _ (put4B w8 (w.heap.size + 1 + 1) ⟨bc, dst, bs, bf⟩)
      generalize put4B w8 (w.heap.size + 1 + 1) ⟨bc, dst, bs, bf⟩ = w9 at *
      clear hg hnB
      clear x0 x1 x2 x3 x4 y0 y1 y2 y3 z0 z1 z2 z3 z4 u0 u1 u2 u3 xf yf zf uf
      clear p0 p1 p2 p3
      obtain ⟨x0, x1, x2, x3, x4⟩ := HA.out.cell
      obtain ⟨y0, y1, y2, y3⟩ := HB.out.cell
      obtain ⟨z0, z1, z2, z3, z4⟩ := HZ.out.cell
      obtain ⟨u0, u1, u2, u3⟩ := HY.out.cell
      have xf := HA.out.frozen
      have yf := HB.out.frozen
      have zf := HZ.out.frozen
      have uf := HY.out.frozen
      have s0 := HS.out.cell0
      obtain ⟨e1, e2, e3⟩ := HR.out
      subst e1 e2 e3
      have HE := Lib.hid (both_after HZ.out HY.out (by omega) HW.out (by omega) (by omega) (own_nilF _ (w.heap.size + 1 + 1 + 1 + 1 + 1 + 1)) (by omega) (by omega) ⟨las, dst, srv, rpt, cel⟩ ⟨bc, dst, bs, bf⟩)
      go_region
      all_goals
        go_wp2
        refine bodyPost_ret (results_agb rfl _ _ _ _ ⟨las, dst, srv, rpt, cel⟩ ⟨bc, dst, bs, bf⟩ (.slice none 0 0) rfl ?_ rfl ?_ rfl) rfl ⟨(.slice none 0 0), rfl, ?_, ?_⟩
        all_goals first | with_reducible exact HE.out.1.1 | with_reducible exact HE.out.1.2.1 | with_reducible exact HE.out.1.2.2.1 | with_reducible exact HE.out.1.2.2.2 | with_reducible exact HE.out.2.1 | with_reducible exact HE.out.2.2.1 | with_reducible exact HE.out.2.2.2.1 | with_reducible exact HE.out.2.2.2.2
  · have HR0 := Lib.hid (HRT.out rfl)
    obtain ⟨rfl, rfl⟩ := HFT.out rfl
    obtain ⟨A7, c7, rfl, _⟩ := HO.out.form
    obtain ⟨b7, o7, rfl, p0, p1, p2, p3⟩ := one_cells (ownsRow_holds HO.out)
    clear HRT HRY0 HRN0 HFT HFF HO HPB HBT HBF HO7 HG
    dsimp only at p0 p1 p2 p3
    rcases bs with _ | _
    · rcases srv with _ | _
      · have HR : Hid (R = ⟨las, -1, false, 1, bd⟩ ∧ Q = ⟨bd, -1, false, bf⟩ ∧ L = [repF ⟨las, -1, false, 1, bd⟩ r]) := Lib.hid HR0.out
        clear HR0
        obtain ⟨x0, x1, x2, x3, x4⟩ := HA.out.cell
        obtain ⟨y0, y1, y2, y3⟩ := HB.out.cell
        obtain ⟨z0, z1, z2, z3, z4⟩ := HZ.out.cell
        obtain ⟨u0, u1, u2, u3⟩ := HY.out.cell
        have xf := HA.out.frozen
        have yf := HB.out.frozen
        have zf := HZ.out.frozen
        have uf := HY.out.frozen
        go_upto_region 6 with fail
        have hg := put4B_grown w7 (w.heap.size + 1 + 1) ⟨bd, -1, false, bf⟩
        have hnB : BodAt (put4B w7 (w.heap.size + 1 + 1) ⟨bd, -1, false, bf⟩) (w.heap.size + 1 + 1) ⟨bd, -1, false, bf⟩ := HB.out.put4 ⟨bd, -1, false, bf⟩
        replace HB := Lib.hid hnB
        replace HA := Lib.hid (HA.out.grown hg (fun e => by injection e with e; omega))
        replace HZ := Lib.hid (HZ.out.grown hg (fun e => by injection e with e; omega))
        replace HY := Lib.hid (BodAt.grown HY.out hg (fun e => by injection e with e; omega))
        replace HS := Lib.hid (HS.out.grown hg (fun e => by injection e with e; omega))
        replace HW := Lib.hid (put4B_below (X := w.heap.size + 1 + 1) (b := ⟨bd, -1, false, bf⟩) HW.out (by omega))
        change Code.wp _ _ _ _ (put4B w7 (w.heap.size + 1 + 1) ⟨bd, -1, false, bf⟩)
        generalize put4B w7 (w.heap.size + 1 + 1) ⟨bd, -1, false, bf⟩ = w8 at *
        clear hg hnB
        clear x0 x1 x2 x3 x4 y0 y1 y2 y3 z0 z1 z2 z3 z4 u0 u1 u2 u3 xf yf zf uf
        clear p0 p1 p2 p3
        obtain ⟨x0, x1, x2, x3, x4⟩ := HA.out.cell
        obtain ⟨y0, y1, y2, y3⟩ := HB.out.cell
        obtain ⟨z0, z1, z2, z3, z4⟩ := HZ.out.cell
        obtain ⟨u0, u1, u2, u3⟩ := HY.out.cell
        have xf := HA.out.frozen
        have yf := HB.out.frozen
        have zf := HZ.out.frozen
        have uf := HY.out.frozen
        go_upto_region 7 with fail
        have hg := one_grown w8 (w.heap.size + 1 + 1) 2 (.bool false)
        have hnM := (show BodAt (w8.setCell ⟨w.heap.size + 1 + 1, 2, none⟩ (.bool false)) (w.heap.size + 1 + 1) ⟨bd, -1, false, bf⟩ from HB.out.put2)
        replace HB := Lib.hid hnM
        replace HA := Lib.hid (HA.out.grown hg (fun e => by injection e with e; omega))
        replace HZ := Lib.hid (HZ.out.grown hg (fun e => by injection e with e; omega))
        replace HY := Lib.hid (BodAt.grown HY.out hg (fun e => by injection e with e; omega))
        replace HS := Lib.hid (HS.out.grown hg (fun e => by injection e with e; omega))
        replace HW := Lib.hid (below_put (g := w.heap.size + 1 + 1) (i := 2) (v := .bool false) HW.out (by omega))
        generalize w8.setCell ⟨w.heap.size + 1 + 1, 2, none⟩ (.bool false) = w9 at *
        clear hg hnM
        clear x0 x1 x2 x3 x4 y0 y1 y2 y3 z0 z1 z2 z3 z4 u0 u1 u2 u3 xf yf zf uf
        obtain ⟨x0, x1, x2, x3, x4⟩ := HA.out.cell
        obtain ⟨y0, y1, y2, y3⟩ := HB.out.cell
        obtain ⟨z0, z1, z2, z3, z4⟩ := HZ.out.cell
        obtain ⟨u0, u1, u2, u3⟩ := HY.out.cell
        have xf := HA.out.frozen
        have yf := HB.out.frozen
        have zf := HZ.out.frozen
        have uf := HY.out.frozen
        go_upto_region 8 with fail
        have hg := one_grown w9 (w.heap.size + 1) 1 (.int .i64 (-1))
        have hnM := (show AgAt (w9.setCell ⟨w.heap.size + 1, 1, none⟩ (.int .i64 (-1))) (w.heap.size + 1) ⟨las, -1, false, rpt, cel⟩ from HA.out.put1)
        replace HA := Lib.hid hnM
        replace HB := Lib.hid (BodAt.grown HB.out hg (fun e => by injection e with e; omega))
        replace HZ := Lib.hid (HZ.out.grown hg (fun e => by injection e with e; omega))
        replace HY := Lib.hid (BodAt.grown HY.out hg (fun e => by injection e with e; omega))
        replace HS := Lib.hid (HS.out.grown hg (fun e => by injection e with e; omega))
        replace HW := Lib.hid (below_put (g := w.heap.size + 1) (i := 1) (v := .int .i64 (-1)) HW.out (by omega))
        generalize w9.setCell ⟨w.heap.size + 1, 1, none⟩ (.int .i64 (-1)) = w10 at *
        clear hg hnM
        clear x0 x1 x2 x3 x4 y0 y1 y2 y3 z0 z1 z2 z3 z4 u0 u1 u2 u3 xf yf zf uf
        obtain ⟨x0, x1, x2, x3, x4⟩ := HA.out.cell
        obtain ⟨y0, y1, y2, y3⟩ := HB.out.cell
        obtain ⟨z0, z1, z2, z3, z4⟩ := HZ.out.cell
        obtain ⟨u0, u1, u2, u3⟩ := HY.out.cell
        have xf := HA.out.frozen
        have yf := HB.out.frozen
        have zf := HZ.out.frozen
        have uf := HY.out.frozen
        go_wp2_with fail
        have hw8 := block_lt HS.out
        refine (HC.out _ _ HS.out).mono ?_
        rintro e w11 ⟨rfl, h1, hg9⟩
        have H1 := Lib.hid h1
        replace HA := Lib.hid (HA.out.grown hg9 (fun e => by injection e with e; omega))
        replace HB := Lib.hid (BodAt.grown HB.out hg9 (fun e => by injection e with e; omega))
        replace HZ := Lib.hid (HZ.out.grown hg9 (fun e => by injection e with e; omega))
        replace HY := Lib.hid (BodAt.grown HY.out hg9 (fun e => by injection e with e; omega))
        replace HW := Lib.hid (HW.out.grown hg9 HW.out.size (fun k hk => by injection hk with hk; omega))
        clear HS h1 hg9 HC
        have HS := Lib.hid H1.out
        clear H1
        clear x0 x1 x2 x3 x4 y0 y1 y2 y3 z0 z1 z2 z3 z4 u0 u1 u2 u3 xf yf zf uf
        obtain ⟨x0, x1, x2, x3, x4⟩ := HA.out.cell
        obtain ⟨y0, y1, y2, y3⟩ := HB.out.cell
        obtain ⟨z0, z1, z2, z3, z4⟩ := HZ.out.cell
        obtain ⟨u0, u1, u2, u3⟩ := HY.out.cell
        have xf := HA.out.frozen
        have yf := HB.out.frozen
        have zf := HZ.out.frozen
        have uf := HY.out.frozen
        go_upto_region 12 with fail
        have hg := put5A_grown w11 (w.heap.size + 1) ⟨las, -1, false, 1, bd⟩
        have hnA : AgAt (put5A w11 (w.heap.size + 1) ⟨las, -1, false, 1, bd⟩) (w.heap.size + 1) ⟨las, -1, false, 1, bd⟩ := HA.out.put5 ⟨las, -1, false, 1, bd⟩
        replace HA := Lib.hid hnA
        replace HB := Lib.hid (BodAt.grown HB.out hg (fun e => by injection e with e; omega))
        replace HZ := Lib.hid (HZ.out.grown hg (fun e => by injection e with e; omega))
        replace HY := Lib.hid (BodAt.grown HY.out hg (fun e => by injection e with e; omega))
        replace HS := Lib.hid (HS.out.far hg (by omega) (by omega))
        replace HW := Lib.hid (put5A_below (X := w.heap.size + 1) (a := ⟨las, -1, false, 1, bd⟩) HW.out (by omega))
        change Code.wp _ _ _ _ (put5A w11 (w.heap.size + 1) ⟨las, -1, false, 1, bd⟩)
        generalize put5A w11 (w.heap.size + 1) ⟨las, -1, false, 1, bd⟩ = w12 at *
        clear hg hnA
        clear x0 x1 x2 x3 x4 y0 y1 y2 y3 z0 z1 z2 z3 z4 u0 u1 u2 u3 xf yf zf uf
        obtain ⟨x0, x1, x2, x3, x4⟩ := HA.out.cell
        obtain ⟨y0, y1, y2, y3⟩ := HB.out.cell
        obtain ⟨z0, z1, z2, z3, z4⟩ := HZ.out.cell
        obtain ⟨u0, u1, u2, u3⟩ := HY.out.cell
        have xf := HA.out.frozen
        have yf := HB.out.frozen
        have zf := HZ.out.frozen
        have uf := HY.out.frozen
        obtain ⟨A, c, hs0, ho⟩ := HS.out
        have HO := Lib.hid ho
        have s0 : w12.cell? ⟨w.heap.size + 1 + 1 + 1 + 1 + 1, 0, none⟩ = some (.slice A 1 c) := by rw [cell_of_row _ _ _ _ _ (0, 0) hs0]; rfl
        clear hs0 ho HS
        obtain ⟨e1, e2, e3⟩ := HR.out
        subst e1 e2 e3
        have HE := Lib.hid (both_after HZ.out HY.out (by omega) HW.out (by omega) (by omega) HO.out (by omega) (by omega) ⟨las, -1, false, 1, bd⟩ ⟨bd, -1, false, bf⟩)
        go_region
        all_goals
          go_wp2
          refine bodyPost_ret (results_agb rfl _ _ _ _ ⟨las, -1, false, 1, bd⟩ ⟨bd, -1, false, bf⟩ (.slice A 1 c) rfl ?_ rfl ?_ rfl) rfl ⟨(.slice A 1 c), rfl, ?_, ?_⟩
          all_goals first | with_reducible exact HE.out.1.1 | with_reducible exact HE.out.1.2.1 | with_reducible exact HE.out.1.2.2.1 | with_reducible exact HE.out.1.2.2.2 | with_reducible exact HE.out.2.1 | with_reducible exact HE.out.2.2.1 | with_reducible exact HE.out.2.2.2.1 | with_reducible exact HE.out.2.2.2.2
      · have HR : Hid (R = ⟨las, -1, true, 1, bd⟩ ∧ Q = ⟨bd, -1, true, bf⟩ ∧ L = [repF ⟨las, -1, true, 1, bd⟩ r]) := Lib.hid HR0.out
        clear HR0
        obtain ⟨x0, x1, x2, x3, x4⟩ := HA.out.cell
        obtain ⟨y0, y1, y2, y3⟩ := HB.out.cell
        obtain ⟨z0, z1, z2, z3, z4⟩ := HZ.out.cell
        obtain ⟨u0, u1, u2, u3⟩ := HY.out.cell
        have xf := HA.out.frozen
        have yf := HB.out.frozen
        have zf := HZ.out.frozen
        have uf := HY.out.frozen
        go_upto_region 6 with fail
        have hg := put4B_grown w7 (w.heap.size + 1 + 1) ⟨bd, -1, false, bf⟩
        have hnB : BodAt (put4B w7 (w.heap.size + 1 + 1) ⟨bd, -1, false, bf⟩) (w.heap.size + 1 + 1) ⟨bd, -1, false, bf⟩ := HB.out.put4 ⟨bd, -1, false, bf⟩
        replace HB := Lib.hid hnB
        replace HA := Lib.hid (HA.out.grown hg (fun e => by injection e with e; omega))
        replace HZ := Lib.hid (HZ.out.grown hg (fun e => by injection e with e; omega))
        replace HY := Lib.hid (BodAt.grown HY.out hg (fun e => by injection e with e; omega))
        replace HS := Lib.hid (HS.out.grown hg (fun e => by injection e with e; omega))
        replace HW := Lib.hid (put4B_below (X := w.heap.size + 1 + 1) (b := ⟨bd, -1, false, bf⟩) HW.out (by omega))
        change Code.wp _ _ _ _ (put4B w7 (w.heap.size + 1 + 1) ⟨bd, -1, false, bf⟩)
        generalize put4B w7 (w.heap.size + 1 + 1) ⟨bd, -1, false, bf⟩ = w8 at *
        clear hg hnB
        clear x0 x1 x2 x3 x4 y0 y1 y2 y3 z0 z1 z2 z3 z4 u0 u1 u2 u3 xf yf zf uf
        clear p0 p1 p2 p3
        obtain ⟨x0, x1, x2, x3, x4⟩ := HA.out.cell
        obtain ⟨y0, y1, y2, y3⟩ := HB.out.cell
        obtain ⟨z0, z1, z2, z3, z4⟩ := HZ.out.cell
        obtain ⟨u0, u1, u2, u3⟩ := HY.out.cell
        have xf := HA.out.frozen
        have yf := HB.out.frozen
        have zf := HZ.out.frozen
        have uf := HY.out.frozen
        go_upto_region 7 with fail
        have hg := one_grown w8 (w.heap.size + 1 + 1) 2 (.bool true)
        have hnM := (show BodAt (w8.setCell ⟨w.heap.size + 1 + 1, 2, none⟩ (.bool true)) (w.heap.size + 1 + 1) ⟨bd, -1, true, bf⟩ from HB.out.put2)
        replace HB := Lib.hid hnM
        replace HA := Lib.hid (HA.out.grown hg (fun e => by injection e with e; omega))
        replace HZ := Lib.hid (HZ.out.grown hg (fun e => by injection e with e; omega))
        replace HY := Lib.hid (BodAt.grown HY.out hg (fun e => by injection e with e; omega))
        replace HS := Lib.hid (HS.out.grown hg (fun e => by injection e with e; omega))
        replace HW := Lib.hid (below_put (g := w.heap.size + 1 + 1) (i := 2) (v := .bool true) HW.out (by omega))
        generalize w8.setCell ⟨w.heap.size + 1 + 1, 2, none⟩ (.bool true) = w9 at *
        clear hg hnM
        clear x0 x1 x2 x3 x4 y0 y1 y2 y3 z0 z1 z2 z3 z4 u0 u1 u2 u3 xf yf zf uf
        obtain ⟨x0, x1, x2, x3, x4⟩ := HA.out.cell
        obtain ⟨y0, y1, y2, y3⟩ := HB.out.cell
        obtain ⟨z0, z1, z2, z3, z4⟩ := HZ.out.cell
        obtain ⟨u0, u1, u2, u3⟩ := HY.out.cell
        have xf := HA.out.frozen
        have yf := HB.out.frozen
        have zf := HZ.out.frozen
        have uf := HY.out.frozen
        go_upto_region 8 with fail
        have hg := one_grown w9 (w.heap.size + 1) 1 (.int .i64 (-1))
        have hnM := (show AgAt (w9.setCell ⟨w.heap.size + 1, 1, none⟩ (.int .i64 (-1))) (w.heap.size + 1) ⟨las, -1, true, rpt, cel⟩ from HA.out.put1)
        replace HA := Lib.hid hnM
        replace HB := Lib.hid (BodAt.grown HB.out hg (fun e => by injection e with e; omega))
        replace HZ := Lib.hid (HZ.out.grown hg (fun e => by injection e with e; omega))
        replace HY := Lib.hid (BodAt.grown HY.out hg (fun e => by injection e with e; omega))
        replace HS := Lib.hid (HS.out.grown hg (fun e => by injection e with e; omega))
        replace HW := Lib.hid (below_put (g := w.heap.size + 1) (i := 1) (v := .int .i64 (-1)) HW.out (by omega))
        generalize w9.setCell ⟨w.heap.size + 1, 1, none⟩ (.int .i64 (-1)) = w10 at *
        clear hg hnM
        clear x0 x1 x2 x3 x4 y0 y1 y2 y3 z0 z1 z2 z3 z4 u0 u1 u2 u3 xf yf zf uf
        obtain ⟨x0, x1, x2, x3, x4⟩ := HA.out.cell
        obtain ⟨y0, y1, y2, y3⟩ := HB.out.cell
        obtain ⟨z0, z1, z2, z3, z4⟩ := HZ.out.cell
        obtain ⟨u0, u1, u2, u3⟩ := HY.out.cell
        have xf := HA.out.frozen
        have yf := HB.out.frozen
        have zf := HZ.out.frozen
        have uf := HY.out.frozen
        go_wp2_with fail
        have hw8 := block_lt HS.out
        refine (HC.out _ _ HS.out).mono ?_
        rintro e w11 ⟨rfl, h1, hg9⟩
        have H1 := Lib.hid h1
        replace HA := Lib.hid (HA.out.grown hg9 (fun e => by injection e with e; omega))
        replace HB := Lib.hid (BodAt.grown HB.out hg9 (fun e => by injection e with e; omega))
        replace HZ := Lib.hid (HZ.out.grown hg9 (fun e => by injection e with e; omega))
        replace HY := Lib.hid (BodAt.grown HY.out hg9 (fun e => by injection e with e; omega))
        replace HW := Lib.hid (HW.out.grown hg9 HW.out.size (fun k hk => by injection hk with hk; omega))
        clear HS h1 hg9 HC
        have HS := Lib.hid H1.out
        clear H1
        clear x0 x1 x2 x3 x4 y0 y1 y2 y3 z0 z1 z2 z3 z4 u0 u1 u2 u3 xf yf zf uf
        obtain ⟨x0, x1, x2, x3, x4⟩ := HA.out.cell
        obtain ⟨y0, y1, y2, y3⟩ := HB.out.cell
        obtain ⟨z0, z1, z2, z3, z4⟩ := HZ.out.cell
        obtain ⟨u0, u1, u2, u3⟩ := HY.out.cell
        have xf := HA.out.frozen
        have yf := HB.out.frozen
        have zf := HZ.out.frozen
        have uf := HY.out.frozen
        go_upto_region 12 with fail
        have hg := put5A_grown w11 (w.heap.size + 1) ⟨las, -1, true, 1, bd⟩
        have hnA : AgAt (put5A w11 (w.heap.size + 1) ⟨las, -1, true, 1, bd⟩) (w.heap.size + 1) ⟨las, -1, true, 1, bd⟩ := HA.out.put5 ⟨las, -1, true, 1, bd⟩
        replace HA := Lib.hid hnA
        replace HB := Lib.hid (BodAt.grown HB.out hg (fun e => by injection e with e; omega))
        replace HZ := Lib.hid (HZ.out.grown hg (fun e => by injection e with e; omega))
        replace HY := Lib.hid (BodAt.grown HY.out hg (fun e => by injection e with e; omega))
        replace HS := Lib.hid (HS.out.far hg (by omega) (by omega))
        replace HW := Lib.hid (put5A_below (X := w.heap.size + 1) (a := ⟨las, -1, true, 1, bd⟩) HW.out (by omega))
        change Code.wp _ _ _ _ (put5A w11 (w.heap.size + 1) ⟨las, -1, true, 1, bd⟩)
        generalize put5A w11 (w.heap.size + 1) ⟨las, -1, true, 1, bd⟩ = w12 at *
        clear hg hnA
        clear x0 x1 x2 x3 x4 y0 y1 y2 y3 z0 z1 z2 z3 z4 u0 u1 u2 u3 xf yf zf uf
        obtain ⟨x0, x1, x2, x3, x4⟩ := HA.out.cell
        obtain ⟨y0, y1, y2, y3⟩ := HB.out.cell
        obtain ⟨z0, z1, z2, z3, z4⟩ := HZ.out.cell
        obtain ⟨u0, u1, u2, u3⟩ := HY.out.cell
        have xf := HA.out.frozen
        have yf := HB.out.frozen
        have zf := HZ.out.frozen
        have uf := HY.out.frozen
        obtain ⟨A, c, hs0, ho⟩ := HS.out
        have HO := Lib.hid ho
        have s0 : w12.cell? ⟨w.heap.size + 1 + 1 + 1 + 1 + 1, 0, none⟩ = some (.slice A 1 c) := by rw [cell_of_row _ _ _ _ _ (0, 0) hs0]; rfl
        clear hs0 ho HS
        obtain ⟨e1, e2, e3⟩ := HR.out
        subst e1 e2 e3
        have HE := Lib.hid (both_after HZ.out HY.out (by omega) HW.out (by omega) (by omega) HO.out (by omega) (by omega) ⟨las, -1, true, 1, bd⟩ ⟨bd, -1, true, bf⟩)
        go_region
        all_goals
          go_wp2
          refine bodyPost_ret (results_agb rfl _ _ _ _ ⟨las, -1, true, 1, bd⟩ ⟨bd, -1, true, bf⟩ (.slice A 1 c) rfl ?_ rfl ?_ rfl) rfl ⟨(.slice A 1 c), rfl, ?_, ?_⟩
          all_goals first | with_reducible exact HE.out.1.1 | with_reducible exact HE.out.1.2.1 | with_reducible exact HE.out.1.2.2.1 | with_reducible exact HE.out.1.2.2.2 | with_reducible exact HE.out.2.1 | with_reducible exact HE.out.2.2.1 | with_reducible exact HE.out.2.2.2.1 | with_reducible exact HE.out.2.2.2.2
    · have HR : Hid (R = ⟨las, -1, srv, 1, bd⟩ ∧ Q = ⟨bd, -1, true, bf⟩ ∧ L = [repF ⟨las, -1, srv, 1, bd⟩ r]) := Lib.hid HR0.out
      clear HR0
      obtain ⟨x0, x1, x2, x3, x4⟩ := HA.out.cell
      obtain ⟨y0, y1, y2, y3⟩ := HB.out.cell
      obtain ⟨z0, z1, z2, z3, z4⟩ := HZ.out.cell
      obtain ⟨u0, u1, u2, u3⟩ := HY.out.cell
      have xf := HA.out.frozen
      have yf := HB.out.frozen
      have zf := HZ.out.frozen
      have uf := HY.out.frozen
      go_upto_region 6 with fail
      have hg := put4B_grown w7 (w.heap.size + 1 + 1) ⟨bd, -1, true, bf⟩
      have hnB : BodAt (put4B w7 (w.heap.size + 1 + 1) ⟨bd, -1, true, bf⟩) (w.heap.size + 1 + 1) ⟨bd, -1, true, bf⟩ := HB.out.put4 ⟨bd, -1, true, bf⟩
      replace HB := Lib.hid hnB
      replace HA := Lib.hid (HA.out.grown hg (fun e => by injection e with e; omega))
      replace HZ := Lib.hid (HZ.out.grown hg (fun e => by injection e with e; omega))
      replace HY := Lib.hid (BodAt.grown HY.out hg (fun e => by injection e with e; omega))
      replace HS := Lib.hid (HS.out.grown hg (fun e => by injection e with e; omega))
      replace HW := Lib.hid (put4B_below (X := w.heap.size + 1 + 1) (b := ⟨bd, -1, true, bf⟩) HW.out (by omega))
      change Code.wp _ _ _ _ (put4B w7 (w.heap.size + 1 + 1) ⟨bd, -1, true, bf⟩)
      generalize put4B w7 (w.heap.size + 1 + 1) ⟨bd, -1, true, bf⟩ = w8 at *
      clear hg hnB
      clear x0 x1 x2 x3 x4 y0 y1 y2 y3 z0 z1 z2 z3 z4 u0 u1 u2 u3 xf yf zf uf
      clear p0 p1 p2 p3
      obtain ⟨x0, x1, x2, x3, x4⟩ := HA.out.cell
      obtain ⟨y0, y1, y2, y3⟩ := HB.out.cell
      obtain ⟨z0, z1, z2, z3, z4⟩ := HZ.out.cell
      obtain ⟨u0, u1, u2, u3⟩ := HY.out.cell
      have xf := HA.out.frozen
      have yf := HB.out.frozen
      have zf := HZ.out.frozen
      have uf := HY.out.frozen
      go_upto_region 7 with fail
      have hg := one_grown w8 (w.heap.size + 1 + 1) 2 (.bool true)
      have hnM := (show BodAt (w8.setCell ⟨w.heap.size + 1 + 1, 2, none⟩ (.bool true)) (w.heap.size + 1 + 1) ⟨bd, -1, true, bf⟩ from HB.out.put2)
      replace HB := Lib.hid hnM
      replace HA := Lib.hid (HA.out.grown hg (fun e => by injection e with e; omega))
      replace HZ := Lib.hid (HZ.out.grown hg (fun e => by injection e with e; omega))
      replace HY := Lib.hid (BodAt.grown HY.out hg (fun e => by injection e with e; omega))
      replace HS := Lib.hid (HS.out.grown hg (fun e => by injection e with e; omega))
      replace HW := Lib.hid (below_put (g := w.heap.size + 1 + 1) (i := 2) (v := .bool true) HW.out (by omega))
      generalize w8.setCell ⟨w.heap.size + 1 + 1, 2, none⟩ (.bool true) = w9 at *
      clear hg hnM
      clear x0 x1 x2 x3 x4 y0 y1 y2 y3 z0 z1 z2 z3 z4 u0 u1 u2 u3 xf yf zf uf
      obtain ⟨x0, x1, x2, x3, x4⟩ := HA.out.cell
      obtain ⟨y0, y1, y2, y3⟩ := HB.out.cell
      obtain ⟨z0, z1, z2, z3, z4⟩ := HZ.out.cell
      obtain ⟨u0, u1, u2, u3⟩ := HY.out.cell
      have xf := HA.out.frozen
      have yf := HB.out.frozen
      have zf := HZ.out.frozen
      have uf := HY.out.frozen
      go_upto_region 8 with fail
      have hg := one_grown w9 (w.heap.size + 1) 1 (.int .i64 (-1))
      have hnM := (show AgAt (w9.setCell ⟨w.heap.size + 1, 1, none⟩ (.int .i64 (-1))) (w.heap.size + 1) ⟨las, -1, srv, rpt, cel⟩ from HA.out.put1)
      replace HA := Lib.hid hnM
      replace HB := Lib.hid (BodAt.grown HB.out hg (fun e => by injection e with e; omega))
      replace HZ := Lib.hid (HZ.out.grown hg (fun e => by injection e with e; omega))
      replace HY := Lib.hid (BodAt.grown HY.out hg (fun e => by injection e with e; omega))
      replace HS := Lib.hid (HS.out.grown hg (fun e => by injection e with e; omega))
      replace HW := Lib.hid (below_put (g := w.heap.size + 1) (i := 1) (v := .int .i64 (-1)) HW.out (by omega))
      generalize w9.setCell ⟨w.heap.size + 1, 1, none⟩ (.int .i64 (-1)) = w10 at *
      clear hg hnM
      clear x0 x1 x2 x3 x4 y0 y1 y2 y3 z0 z1 z2 z3 z4 u0 u1 u2 u3 xf yf zf uf
      obtain ⟨x0, x1, x2, x3, x4⟩ := HA.out.cell
      obtain ⟨y0, y1, y2, y3⟩ := HB.out.cell
      obtain ⟨z0, z1, z2, z3, z4⟩ := HZ.out.cell
      obtain ⟨u0, u1, u2, u3⟩ := HY.out.cell
      have xf := HA.out.frozen
      have yf := HB.out.frozen
      have zf := HZ.out.frozen
      have uf := HY.out.frozen
      go_wp2_with fail
      have hw8 := block_lt HS.out
      refine (HC.out _ _ HS.out).mono ?_
      rintro e w11 ⟨rfl, h1, hg9⟩
      have H1 := Lib.hid h1
      replace HA := Lib.hid (HA.out.grown hg9 (fun e => by injection e with e; omega))
      replace HB := Lib.hid (BodAt.grown HB.out hg9 (fun e => by injection e with e; omega))
      replace HZ := Lib.hid (HZ.out.grown hg9 (fun e => by injection e with e; omega))
      replace HY := Lib.hid (BodAt.grown HY.out hg9 (fun e => by injection e with e; omega))
      replace HW := Lib.hid (HW.out.grown hg9 HW.out.size (fun k hk => by injection hk with hk; omega))
      clear HS h1 hg9 HC
      have HS := Lib.hid H1.out
      clear H1
      clear x0 x1 x2 x3 x4 y0 y1 y2 y3 z0 z1 z2 z3 z4 u0 u1 u2 u3 xf yf zf uf
      obtain ⟨x0, x1, x2, x3, x4⟩ := HA.out.cell
      obtain ⟨y0, y1, y2, y3⟩ := HB.out.cell
      obtain ⟨z0, z1, z2, z3, z4⟩ := HZ.out.cell
      obtain ⟨u0, u1, u2, u3⟩ := HY.out.cell
      have xf := HA.out.frozen
      have yf := HB.out.frozen
      have zf := HZ.out.frozen
      have uf := HY.out.frozen
      go_upto_region 12 with fail
      have hg := put5A_grown w11 (w.heap.size + 1) ⟨las, -1, srv, 1, bd⟩
      have hnA : AgAt (put5A w11 (w.heap.size + 1) ⟨las, -1, srv, 1, bd⟩) (w.heap.size + 1) ⟨las, -1, srv, 1, bd⟩ := HA.out.put5 ⟨las, -1, srv, 1, bd⟩
      replace HA := Lib.hid hnA
      replace HB := Lib.hid (BodAt.grown HB.out hg (fun e => by injection e with e; omega))
      replace HZ := Lib.hid (HZ.out.grown hg (fun e => by injection e with e; omega))
      replace HY := Lib.hid (BodAt.grown HY.out hg (fun e => by injection e with e; omega))
      replace HS := Lib.hid (HS.out.far hg (by omega) (by omega))
      replace HW := Lib.hid (put5A_below (X := w.heap.size + 1) (a := ⟨las, -1, srv, 1, bd⟩) HW.out (by omega))
      change Code.wp _ _ _ _ (put5A w11 (w.heap.size + 1) ⟨las, -1, srv, 1, bd⟩)
      generalize put5A w11 (w.heap.size + 1) ⟨las, -1, srv, 1, bd⟩ = w12 at *
      clear hg hnA
      clear x0 x1 x2 x3 x4 y0 y1 y2 y3 z0 z1 z2 z3 z4 u0 u1 u2 u3 xf yf zf uf
      obtain ⟨x0, x1, x2, x3, x4⟩ := HA.out.cell
      obtain ⟨y0, y1, y2, y3⟩ := HB.out.cell
      obtain ⟨z0, z1, z2, z3, z4⟩ := HZ.out.cell
      obtain ⟨u0, u1, u2, u3⟩ := HY.out.cell
      have xf := HA.out.frozen
      have yf := HB.out.frozen
      have zf := HZ.out.frozen
      have uf := HY.out.frozen
      obtain ⟨A, c, hs0, ho⟩ := HS.out
      have HO := Lib.hid ho
      have s0 : w12.cell? ⟨w.heap.size + 1 + 1 + 1 + 1 + 1, 0, none⟩ = some (.slice A 1 c) := by rw [cell_of_row _ _ _ _ _ (0, 0) hs0]; rfl
      clear hs0 ho HS
      obtain ⟨e1, e2, e3⟩ := HR.out
      subst e1 e2 e3
      have HE := Lib.hid (both_after HZ.out HY.out (by omega) HW.out (by omega) (by omega) HO.out (by omega) (by omega) ⟨las, -1, srv, 1, bd⟩ ⟨bd, -1, true, bf⟩)
      go_region
      all_goals
        go_wp2
        refine bodyPost_ret (results_agb rfl _ _ _ _ ⟨las, -1, srv, 1, bd⟩ ⟨bd, -1, true, bf⟩ (.slice A 1 c) rfl ?_ rfl ?_ rfl) rfl ⟨(.slice A 1 c), rfl, ?_, ?_⟩
        all_goals first | with_reducible exact HE.out.1.1 | with_reducible exact HE.out.1.2.1 | with_reducible exact HE.out.1.2.2.1 | with_reducible exact HE.out.1.2.2.2 | with_reducible exact HE.out.2.1 | with_reducible exact HE.out.2.2.1 | with_reducible exact HE.out.2.2.2.1 | with_reducible exact HE.out.2.2.2.2
end Go.Proofs.Ytmdnkpiihhaoeaa
