/- Joined texts. -/
import Derived.Test.YtmdnkpiihhaoeaaMzAX
import Derived.Test.YtmdnkpiihhaoeaaMzAV
import Derived.Deep.RegionHeld3
import Derived.Deep.DeepCutAuto
import Derived.BigQuiet
import Derived.Test.YtmdnkpiihhaoeaaMzAU
import Derived.Test.YtmdnkpiihhaoeaaMzAQ
import Derived.Test.YtmdnkpiihhaoeaaAgDrive
import Derived.Test.YtmdnkpiihhaoeaaMzAY
namespace Go.Proofs.Ytmdnkpiihhaoeaa
open Go Go.RowKit Fl

theorem cut_firstA {a b : Prop} (h : a) (k : a → b) : b := k h
theorem AgAt.newz (w : World) : AgAt (w.alloc (.cells #[.int .u64 0, .int .i64 0, .bool false, .int .i64 0, .int .i64 0] 32)) w.heap.size ⟨0, 0, false, 0, 0⟩ := AgAt.new w ⟨0, 0, false, 0, 0⟩
theorem AgAt.newd (w : World) : AgAt (w.drew.alloc (.cells #[.int .u64 0, .int .i64 0, .bool false, .int .i64 0, .int .i64 0] 32)) w.heap.size ⟨0, 0, false, 0, 0⟩ := AgAt.new w.drew ⟨0, 0, false, 0, 0⟩
theorem AgAt.newe (w : World) : AgAt (w.alloc (.cells #[.int .u64 0, .int .i64 0, .bool false, .int .i64 0, .int .i64 0] 32)).drew w.heap.size ⟨0, 0, false, 0, 0⟩ := (AgAt.new w ⟨0, 0, false, 0, 0⟩).keep (Below.refl _ _).drew
theorem FrsR.alloc {w : World} {base : Nat} {v : Value} {l : List FrD} (h : FrsR w base v l) (o : Obj) : FrsR (w.alloc o) base v l := h.keep (below_newF _ _)
theorem FrsR.far5 {w : World} {base X b2 : Nat} {v : Value} {l : List FrD} (h : FrsR w base v l) (hX : X < base) (hb : b2 ≤ base) (a : AgtD) : FrsR (((((w.setCell ⟨X, 0, none⟩ (.int .u64 a.las)).setCell ⟨X, 1, none⟩ (.int .i64 a.dst)).setCell ⟨X, 2, none⟩ (.bool a.srv)).setCell ⟨X, 3, none⟩ (.int .i64 a.rpt)).setCell ⟨X, 4, none⟩ (.int .i64 a.cel)) b2 v l := (h.far (put5A_grown w X a) hX).low hb
theorem below_put5 {B X : Nat} {w w' : World} (h : Below B w w') (hX : B ≤ X) (a : AgtD) : Below B w (((((w'.setCell ⟨X, 0, none⟩ (.int .u64 a.las)).setCell ⟨X, 1, none⟩ (.int .i64 a.dst)).setCell ⟨X, 2, none⟩ (.bool a.srv)).setCell ⟨X, 3, none⟩ (.int .i64 a.rpt)).setCell ⟨X, 4, none⟩ (.int .i64 a.cel)) := put5A_below h hX
abbrev fK17 : FrD := ⟨1, 0, 1, 3, 0⟩
abbrev aK17 : AgtD := ⟨1, 3, false, 0, 0⟩
theorem k17a : hearA newA 0 fK17 = aK17 ∧ hearL 0 fK17 = [⟨3, 0, 1, 0, 0⟩] := by decide
theorem k17b : hearA aK17 0 fK17 = aK17 := by decide
set_option maxRecDepth 100000 in
set_option maxHeartbeats 2000000 in
theorem known17_c (w : World) : Calls Try.prog 6 #[] w fun e w' => e = .returned (.bool true) ∧ Below w.heap.size w w' := by
  have HF0 := Lib.hid (FrAt.new w fK17)
  have HB0 := Lib.hid (below_newF w (.cells (FC fK17) 36))
  have CN := Lib.hid (fun W => new_c W)
  have hs1 : w.heap.size < (w.alloc (.cells (FC fK17) 36)).heap.size := by simp
  go_enter Try.func6, Try.ntmps6
  go_upto_region 2 with fail
  generalize w.alloc (.cells (FC fK17) 36) = w1 at *
  have HS : Hid (∀ W, Below w1.heap.size w1 W → W.cell? ⟨w.heap.size, 0, none⟩ = some (.int .i64 1) ∧ W.cell? ⟨w.heap.size, 1, none⟩ = some (.int .i64 0) ∧ W.cell? ⟨w.heap.size, 2, none⟩ = some (.int .u64 1) ∧ W.cell? ⟨w.heap.size, 3, none⟩ = some (.int .i64 3) ∧ W.cell? ⟨w.heap.size, 4, none⟩ = some (.int .i64 0)) := Lib.hid (fun W hW => (HF0.out.keep hW).cell)
  have CH : Hid (∀ W, Calls Try.prog 13 #[AV newA, .int .i64 0, FV fK17] W (fun e w' => ∃ v, e = .returned (.tuple #[AV aK17, v]) ∧ FrsR w' W.heap.size v [⟨3, 0, 1, 0, 0⟩] ∧ Below W.heap.size W w')) := Lib.hid (fun W => by
    have h := hear_c newA 0 fK17 W
    unfold AFPost at h
    rw [k17a.1, k17a.2] at h
    exact h)
  have hb1 : Below w1.heap.size w1 w1 := Below.refl _ _
  go_cut [2, 3] (fun p v wx => ∃ (X : Nat) (A : Option Addr) (c : Nat), p = .pointer (some ⟨X, 0, none⟩) ∧ v = .slice A 1 c ∧ Hid (AgAt wx X aK17) ∧ Hid (FrsR wx w1.heap.size (.slice A 1 c) [⟨3, 0, 1, 0, 0⟩]) ∧ Hid (Below w1.heap.size w1 wx))
  case first =>
    go_region_held3 (fun W => W.cell? ⟨w.heap.size, 0, none⟩ = some (.int .i64 1) ∧ W.cell? ⟨w.heap.size, 1, none⟩ = some (.int .i64 0) ∧ W.cell? ⟨w.heap.size, 2, none⟩ = some (.int .u64 1) ∧ W.cell? ⟨w.heap.size, 3, none⟩ = some (.int .i64 3) ∧ W.cell? ⟨w.heap.size, 4, none⟩ = some (.int .i64 0)) (exact HS.out _ (by repeat (first | assumption | (with_reducible exact Below.refl _ _) | (with_reducible refine Below.drew ?_) | (with_reducible refine Below.alloc ?_ (by first | exact Nat.le_refl _ | exact hbB.size | exact hbA.size | (simp; done) | (simp; omega) | omega) _) | (refine below_put ?_ (by first | exact Nat.le_refl _ | exact hbA.size | exact hbB.size))))) (first | (go_at_call 22; (with_reducible refine (CN.out _).mono ?_); rintro e wA ⟨rfl, hbA0⟩; have hbA : Below w1.heap.size w1 wA := Below.trans (by repeat (first | assumption | (with_reducible exact Below.refl _ _) | (with_reducible refine Below.drew ?_) | (with_reducible refine Below.alloc ?_ (by first | exact Nat.le_refl _ | exact hbB.size | exact hbA.size | (simp; done) | (simp; omega) | omega) _) | (refine below_put ?_ (by first | exact Nat.le_refl _ | exact hbA.size | exact hbB.size)))) (hbA0.mono (by first | exact Nat.le_refl _ | (simp; done) | (simp; omega))); refine cut_firstA (a := AgAt wA w1.heap.size ⟨0, 0, false, 0, 0⟩) ?_ ?_; (focus (refine AgAt.keep ?_ hbA0; (repeat (first | assumption | (with_reducible exact AgAt.newz _) | (with_reducible exact AgAt.newd _) | (with_reducible exact AgAt.newe _) | (with_reducible refine AgAt.drewA ?_))); done)); intro hZ; clear hbA0) | (go_at_call 22; (with_reducible refine (CN.out _).mono ?_); rintro e wA ⟨rfl, hbA0⟩; have hbA : Below w1.heap.size w1 wA := Below.trans (by repeat (first | assumption | (with_reducible exact Below.refl _ _) | (with_reducible refine Below.drew ?_) | (with_reducible refine Below.alloc ?_ (by first | exact Nat.le_refl _ | exact hbB.size | exact hbA.size | (simp; done) | (simp; omega) | omega) _) | (refine below_put ?_ (by first | exact Nat.le_refl _ | exact hbA.size | exact hbB.size)))) (hbA0.mono (by first | exact Nat.le_refl _ | (simp; done) | (simp; omega))); clear hbA0) | (go_at_call 13; (with_reducible refine (CH.out _).mono ?_); rintro e wB ⟨v, rfl, hf, hbB0⟩; have hbB : Below w1.heap.size w1 wB := Below.trans (by repeat (first | assumption | (with_reducible exact Below.refl _ _) | (with_reducible refine Below.drew ?_) | (with_reducible refine Below.alloc ?_ (by first | exact Nat.le_refl _ | exact hbB.size | exact hbA.size | (simp; done) | (simp; omega) | omega) _) | (refine below_put ?_ (by first | exact Nat.le_refl _ | exact hbA.size | exact hbB.size)))) (hbB0.mono (by first | exact hbA.size | (simp; have := hbA.size; omega))); obtain ⟨AF, cF, rfl, _⟩ := hf.form; have hF : FrsR wB _ (.slice AF 1 cF) [⟨3, 0, 1, 0, 0⟩] := hf; have hhF : True := trivial; refine cut_firstA (a := AgAt wB w1.heap.size ⟨0, 0, false, 0, 0⟩) ?_ ?_; (focus (refine AgAt.keep ?_ hbB0; (repeat (first | assumption | (with_reducible exact AgAt.newz _) | (with_reducible exact AgAt.newd _) | (with_reducible exact AgAt.newe _) | (with_reducible refine AgAt.drewA ?_))); done)); intro hZB; obtain ⟨z0, z1, z2, z3, z4⟩ := AgAt.cell hZB; have zf := AgAt.frozen hZB; clear hbB0 hhF) | (go_at_call 13; (with_reducible refine (CH.out _).mono ?_); rintro e wB ⟨v, rfl, hf, hbB0⟩; have hbB : Below w1.heap.size w1 wB := Below.trans (by repeat (first | assumption | (with_reducible exact Below.refl _ _) | (with_reducible refine Below.drew ?_) | (with_reducible refine Below.alloc ?_ (by first | exact Nat.le_refl _ | exact hbB.size | exact hbA.size | (simp; done) | (simp; omega) | omega) _) | (refine below_put ?_ (by first | exact Nat.le_refl _ | exact hbA.size | exact hbB.size)))) (hbB0.mono (by first | exact hbA.size | (simp; have := hbA.size; omega))); obtain ⟨AF, cF, rfl, _⟩ := hf.form; have hF : FrsR wB _ (.slice AF 1 cF) [⟨3, 0, 1, 0, 0⟩] := hf; have hhF : True := trivial; refine cut_firstA (a := AgAt wB wA.heap.size ⟨0, 0, false, 0, 0⟩) ?_ ?_; (focus (refine AgAt.keep ?_ hbB0; (repeat (first | assumption | (with_reducible exact AgAt.newz _) | (with_reducible exact AgAt.newd _) | (with_reducible exact AgAt.newe _) | (with_reducible refine AgAt.drewA ?_))); done)); intro hZB; obtain ⟨z0, z1, z2, z3, z4⟩ := AgAt.cell hZB; have zf := AgAt.frozen hZB; clear hbB0 hhF) | (go_at_call 13; (with_reducible refine (CH.out _).mono ?_); rintro e wB ⟨v, rfl, hf, hbB0⟩; have hbB : Below w1.heap.size w1 wB := Below.trans (by repeat (first | assumption | (with_reducible exact Below.refl _ _) | (with_reducible refine Below.drew ?_) | (with_reducible refine Below.alloc ?_ (by first | exact Nat.le_refl _ | exact hbB.size | exact hbA.size | (simp; done) | (simp; omega) | omega) _) | (refine below_put ?_ (by first | exact Nat.le_refl _ | exact hbA.size | exact hbB.size)))) (hbB0.mono (by first | exact hbA.size | (simp; have := hbA.size; omega))); obtain ⟨AF, cF, rfl, _⟩ := hf.form; have hF : FrsR wB _ (.slice AF 1 cF) [⟨3, 0, 1, 0, 0⟩] := hf; have hhF : True := trivial; clear hbB0 hhF))
    all_goals go_wp2_with fail
    all_goals
      go_meet
      refine ⟨_, AF, cF, rfl, rfl, ?_, ?_, ?_⟩
      · refine Lib.hid ?_; first | (with_reducible exact AgAt.new wB aK17) | (with_reducible exact hZB.put5 aK17)
      · refine Lib.hid ?_; first | ((with_reducible refine FrsR.alloc ?_ _); exact hF.low hbA.size) | ((with_reducible refine FrsR.far5 hF ?_ ?_ aK17) <;> first | exact block_lt hZ | exact hbA.size | (simp; done) | (simp; have := hbA.size; omega))
      · refine Lib.hid ?_; first | ((with_reducible refine Below.alloc hbB ?_ _); exact hbB.size) | ((with_reducible refine below_put5 hbB ?_ aK17); first | exact hbA.size | exact Nat.le_refl _)
  case rest =>
    obtain ⟨X, A, c, rfl, rfl, HX, HFr, HBc⟩ := hcut
    have CH2 : Hid (∀ W, Calls Try.prog 13 #[AV aK17, .int .i64 0, FV fK17] W (fun e w' => ∃ v, e = .returned (.tuple #[AV aK17, v]) ∧ FrsR w' W.heap.size v [⟨3, 0, 1, 0, 0⟩] ∧ Below W.heap.size W w')) := Lib.hid (fun W => by
      have h := hear_c aK17 0 fK17 W
      unfold AFPost at h
      rw [k17b, k17a.2] at h
      exact h)
    have HF1 := Lib.hid (HF0.out.keep HBc.out)
    have HBw := Lib.hid (HB0.out.trans (HBc.out.mono (by omega)))
    clear HS CH CN HF0 HB0 HBc hb1 hs1
    obtain ⟨x0, x1, x2, x3, x4⟩ := HX.out.cell
    obtain ⟨y0, y1, y2, y3, y4⟩ := HF1.out.cell
    go_wp2_with fail
    refine (CH2.out _).mono ?_
    rintro e w5 ⟨v, rfl, hf, hb5⟩
    obtain ⟨A5, c5, rfl, _⟩ := hf.form
    have HX6 := Lib.hid ((HX.out.keep hb5).keep (below_newF w5 (.cells (AC aK17) 32)))
    have HY6 := Lib.hid (AgAt.new w5 aK17)
    have HFr6 := Lib.hid ((HFr.out.keep hb5).keep (below_newF w5 (.cells (AC aK17) 32)))
    have HB6 := Lib.hid ((HBw.out.trans (hb5.mono HBw.out.size)).alloc (by have := HBw.out.size; have := hb5.size; omega) (.cells (AC aK17) 32))
    obtain ⟨A6, c6, e6, hh6⟩ := HFr6.out.form
    have e6' : A6 = A ∧ c6 = c := by injection e6 with e1 _ e3; exact ⟨e1.symm, e3.symm⟩
    obtain ⟨rfl, rfl⟩ := e6'
    obtain ⟨b7, o7, rfl, _, f0, f1, f2, f3, f4⟩ := holds_frm hh6 (k := 0) (by decide)
    obtain ⟨x0, x1, x2, x3, x4⟩ := HX6.out.cell
    obtain ⟨y0, y1, y2, y3, y4⟩ := HY6.out.cell
    have heq := fun W => eq_ag aK17 aK17 W
    have hef := fun W => eq_frame ⟨3, 0, 1, 0, 0⟩ ⟨3, 0, 1, 0, 0⟩ W
    have hga := guard_ag
    have hgd := guard_frame
    simp only [decide_true] at heq hef
    simp only [List.getElem_cons_zero, Nat.zero_mul, Nat.add_zero] at f0 f1 f2 f3 f4
    clear hf hb5 CH2 HX HFr HF1 HBw HX6 HY6 HFr6 hh6 e6
    go_wp2_with fail
    go_ret
    exact ⟨by first | rfl | simp, HB6.out⟩
end Go.Proofs.Ytmdnkpiihhaoeaa
namespace Go.Proofs.Ytmdnkpiihhaoeaa
open Go Go.RowKit Fl

/-- What follows a slot of a depot: one cell. -/
theorem slotNext (Ab An As Ar : Option Addr) (cb cn cs cr : Nat) (N : NetD) (c : Int) (w : World) (hN : NetAt w Ab An As Ar N) (hok : NetOk N) (hcr : N.robots.length ≤ cr) (hc : inDepot N.spurs c) :
    0 ≤ c ∧ ∃ y : Int, 0 ≤ y ∧ y < 48 ∧ (∀ W, Below w.heap.size w W → Calls Try.prog 12 #[.agg #[.slice Ab N.blocks.length cb, .slice An N.next.length cn, .slice As N.spurs.length cs, .slice Ar N.robots.length cr, Iv N.queue, Iv N.aging, Iv N.detours, Iv N.patience], .int .i64 c] W (NextPost2 W [y])) ∧
      (∀ W, Below w.heap.size w W → Calls Try.prog 24 #[.agg #[.slice Ab N.blocks.length cb, .slice An N.next.length cn, .slice As N.spurs.length cs, .slice Ar N.robots.length cr, Iv N.queue, Iv N.aging, Iv N.detours, Iv N.patience], .int .i64 c, .int .i64 y] W fun e w' => e = .returned (.bool true) ∧ Below W.heap.size W w') := by
  obtain ⟨s, hs, _, h1, h2⟩ := hc
  obtain ⟨k, hk, rfl⟩ := List.mem_iff_getElem.1 hs
  have hb := hok.base_ge hk
  have hlt := hok.cell_lt hk
  have ho := (hok.spurOk _ hs).out
  obtain ⟨n, hn, hn1, hn48⟩ := hok.count
  have hx : NextIs N c [if c + 1 < N.spurs[k].base + N.spurs[k].slots then c + 1 else N.spurs[k].out] := .inr ⟨k, hk, h1, h2, rfl⟩
  have hN2 := fun W (hW : Below w.heap.size w W) => devNextIs_c Ab An As Ar cb cn cs cr N c _ W (hN.keep hW) hok hcr hx
  have hbl := hok.some
  have hfew := hok.few
  refine ⟨by omega, _, ?_, ?_, hN2, fun W hW => ?_⟩
  · split <;> omega
  · split <;> omega
  · have h := follows_c Ab An As Ar cb cn cs cr N c (if c + 1 < N.spurs[k].base + N.spurs[k].slots then c + 1 else N.spurs[k].out) _ W (by simp) (fun W2 hW2 => hN2 W2 (hW.trans (hW2.mono hW.size)))
    rwa [decide_eq_true (List.mem_singleton.2 rfl)] at h
section
variable {x y old : Int} {r : Nat}
theorem rp_hear (hy : 0 ≤ y ∧ y < 48) : hearA newA 2 ⟨1, 2, 7, y, 1⟩ = ⟨7, y, true, 0, 0⟩ ∧ hearL 2 ⟨1, 2, 7, y, 1⟩ = [⟨3, 2, 7, 0, 0⟩] := by
  have ho : okF ⟨1, 2, 7, y, 1⟩ = true := by
    unfold okF
    simp only [Bool.and_eq_true, fromB_iff, decide_eq_true_eq]
    refine ⟨⟨⟨by decide, by decide⟩, hy.1, ?_⟩, by decide, by decide⟩
    show y ≤ 47
    omega
  have hv : validF ⟨1, 2, 7, y, 1⟩ = true := by
    unfold validF errF
    rw [if_pos (.inl rfl), if_pos ho]
    rfl
  have hm := mineF_yes (r := 2) hv rfl
  exact ⟨(hear_mine hm).trans (hearK_fresh rfl (show freshB 0 7 = true by decide)), hearL_one hm rfl⟩
theorem rp_drive1 (hx : 0 ≤ x) (hy : 0 ≤ y) : driveA ⟨7, y, true, 0, 0⟩ ⟨x, -1, false, false⟩ = ⟨7, y, true, 0, 0⟩ ∧ driveB true ⟨7, y, true, 0, 0⟩ ⟨x, -1, false, false⟩ = ⟨x, y, false, false⟩ ∧ driveL ⟨7, y, true, 0, 0⟩ 2 ⟨x, -1, false, false⟩ = [] := by
  have h1 : x ≠ -1 := by omega
  have h2 : y ≠ -1 := by omega
  exact begs_yes (by simp [endsB]) (by simp [begsB, restB, floorB, h1, h2])
theorem rp_drive2 (hx : 0 ≤ x) (hy : 0 ≤ y) : driveA ⟨7, y, true, 0, 0⟩ ⟨x, y, false, false⟩ = ⟨7, -1, true, 1, y⟩ ∧ driveB true ⟨7, y, true, 0, 0⟩ ⟨x, y, false, false⟩ = ⟨y, -1, true, false⟩ ∧ driveL ⟨7, y, true, 0, 0⟩ 2 ⟨x, y, false, false⟩ = [⟨2, 2, 7, y, 1⟩] := by
  have h1 : x ≠ -1 := by omega
  have h2 : y ≠ -1 := by omega
  exact ends_yes (by simp [endsB, floorB, h1, h2])
theorem rp_fin (hy : 0 ≤ y) : finA ⟨7, -1, true, 1, y⟩ ⟨y, -1, true, false⟩ = ⟨7, -1, true, 2, y⟩ ∧ finB ⟨y, -1, true, false⟩ = ⟨y, -1, false, false⟩ ∧ finL ⟨7, -1, true, 1, y⟩ 2 ⟨y, -1, true, false⟩ = [⟨2, 2, 7, y, 2⟩] := by
  have h2 : y ≠ -1 := by omega
  exact fins_yes (by simp [finsB, floorB, h2])
theorem rp_ack1 : hearA ⟨7, -1, true, 2, y⟩ 2 ⟨3, 2, 7, 0, 2⟩ = ⟨7, -1, true, 0, 0⟩ :=
  (hear_mine (mineF_yes (by decide) rfl)).trans (hearK_ack rfl (by simp) rfl rfl)
theorem rp_ack0 {f : Int} (h : ¬ (old = 7 ∧ f = 2)) : hearA ⟨7, -1, true, 2, y⟩ 2 ⟨3, 2, old, 0, f⟩ = ⟨7, -1, true, 2, y⟩ := by
  rcases hm : mineF 2 ⟨3, 2, old, 0, f⟩ with _ | _
  · exact (hear_not hm).1
  · exact (hear_mine hm).trans (hearK_no (by simp) (fun hh => h ⟨hh.2.2.1, hh.2.2.2⟩))
theorem rp_again0 : againL ⟨7, -1, true, 0, 0⟩ 2 ⟨y, -1, false, false⟩ = [] := again_no (.inl rfl)
theorem rp_again1 : againL ⟨7, -1, true, 2, y⟩ 2 ⟨y, -1, false, false⟩ = [⟨2, 2, 7, y, 2⟩] := again_yes (by simp) rfl
end
end Go.Proofs.Ytmdnkpiihhaoeaa
namespace Go.Proofs.Ytmdnkpiihhaoeaa
open Go Go.RowKit Fl

/-- A cell that holds a number. -/
def CellI (w : World) (b o : Nat) (y : Int) : Prop := w.cell? ⟨b, o, none⟩ = some (Iv y)
theorem FrAt.put4f {w : World} {b : Nat} {k r s c g v : Int} (h : FrAt w b ⟨k, r, s, c, g⟩) : FrAt (w.setCell ⟨b, 4, none⟩ (.int .i64 v)) b ⟨k, r, s, c, v⟩ := by
  unfold FrAt at h ⊢
  simp [World.setCell, Array.getElem?_modify, h]
theorem FrAt.frozenAll {w : World} {b : Nat} {f : FrD} (h : FrAt w b f) (i : Nat) : w.frozen? ⟨b, i, none⟩ = false := by
  unfold FrAt at h
  simp [World.frozen?, h]
theorem CellI.keep {w w' : World} {b o : Nat} {y : Int} (h : CellI w b o y) (hb : Below w.heap.size w w') : CellI w' b o y := (hb.cell (p := ⟨b, o, none⟩) (World.block_lt_of_cell? _ _ h)).trans h
theorem CellI.grown {w w' : World} {b o : Nat} {y : Int} {row : Option Nat} (h : CellI w b o y) (hg : w.grownBy w' row) (hr : row ≠ some b) : CellI w' b o y := by
  have hlt := World.block_lt_of_cell? _ _ h
  have e := hg.block b hlt (fun e => hr e.symm)
  unfold CellI World.cell? at h ⊢
  simp only at h hlt ⊢
  rw [e]
  exact h
set_option maxRecDepth 100000 in
set_option maxHeartbeats 8000000 in
theorem agentReports_c (C : Option Addr) (k : Nat) (zs : List Int) (old flag : Int) (w : World) (hz : IntsAt w w.heap.size C zs) (hzl : zs.length ≤ maxLen) (hfl : -9223372036854775808 ≤ flag ∧ flag ≤ 9223372036854775807) :
    Calls Try.prog 5 #[.slice C zs.length k, .int .u64 old, .int .i64 flag] w fun e w' => e = .returned (.bool true) ∧ Below w.heap.size w w' := by
  have CK := Lib.hid (known17_c w)
  have HZ := Lib.hid hz
  have HL := Lib.hid hzl
  have CC := Lib.hid (fun W => cut_c flag 3 W (by omega) (by omega) hfl.1 hfl.2)
  unfold CutPost at CC
  clear hz hzl hfl
  go_enter Try.func5, Try.ntmps5
  go_wp2_with fail
  refine CK.out.mono ?_
  rintro e w1 ⟨rfl, hb1⟩
  have HT2 := Lib.hid (tape_new (c := k) HZ.out (Nat.le_refl _) hb1 HL.out)
  have HB2 : Hid (Below w.heap.size w (w1.alloc (.cells #[.slice C zs.length k, .int .i64 0] 40))) := Lib.hid (hb1.alloc hb1.size _)
  have HgB : Hid (w.heap.size ≤ w1.heap.size) := Lib.hid hb1.size
  have HS2 : Hid (w1.heap.size < (w1.alloc (.cells #[.slice C zs.length k, .int .i64 0] 40)).heap.size) := Lib.hid (by simp)
  clear hb1 CK HZ HL
  go_wp2_with fail
  refine (loose_c w.heap.size w1.heap.size 0 6 _ HT2.out (by omega) ⟨by omega, by omega⟩ HS2.out HgB.out).mono ?_
  rintro e w3 ⟨N, Ab, An, As, Ar, cb, cn, cs, cr, top, rfl, hN, hM⟩
  have HN := Lib.hid hN
  have H4 := Lib.hid (MadeN.begin hM ⟨HgB.out, HS2.out⟩ HB2.out)
  generalize w1.alloc (.cells #[.slice C zs.length k, .int .i64 0] 40) = w2 at *
  generalize hg0 : w1.heap.size = g0 at *
  clear hN hM HT2 HB2 HgB HS2 hg0
  go_upto_region 5 with fail
  generalize w3.alloc (.cells (netCells Ab An As Ar cb cn cs cr N) 29) = w4 at *
  generalize w3.heap.size = X at *
  have HNt := Lib.hid H4.out.nm.at_
  have HBw := Lib.hid H4.out.below
  have HXC : Hid (∀ W, Below w4.heap.size w4 W → W.heap[X]? = some (.cells (netCells Ab An As Ar cb cn cs cr N) 29 (0, 0))) := Lib.hid (fun W hW => (hW.block X (block_lt H4.out.box)).trans H4.out.box)
  have hr1 := HN.out.robots1
  obtain ⟨br, ro, hAr, _, hrob⟩ := HNt.out.robots.at_ (by rw [List.length_map]; omega)
  have hrob0 := hrob 0 (by rw [List.length_map]; omega)
  simp only [List.getElem_map, Nat.add_zero] at hrob0
  have hdep := HN.out.ok.homes _ (List.getElem_mem (show 0 < N.robots.length by omega))
  generalize N.robots[0] = x0 at *
  obtain ⟨hx0, y, hy0, hy48, hNx, hFo⟩ := slotNext Ab An As Ar cb cn cs cr N x0 w4 HNt.out HN.out.ok H4.out.nm.capR hdep
  have HNx := Lib.hid hNx
  have HFo := Lib.hid hFo
  subst hAr
  have hr1' : (0 : Int) < (N.robots.length : Int) := by omega
  have hX4 := block_lt H4.out.box
  obtain ⟨x0c, x1c, x2c, x3c, x4c, x5c, x6c, x7c⟩ := boxAt_of (HXC.out w4 (Below.refl _ _))
  clear HN H4 HNt hrob hdep hNx hFo hr1
  have CH := Lib.hid (fun W => hear_c newA 2 ⟨1, 2, 7, y, 1⟩ W)
  have CD1 := Lib.hid (fun W (hW : Below w4.heap.size w4 W) => drive_c Ab An As (some ⟨br, ro, none⟩) cb cn cs cr N ⟨7, y, true, 0, 0⟩ 2 ⟨x0, -1, false, false⟩ true W (fun _ => ⟨hy0, hy48⟩) (fun W2 hW2 => HFo.out W2 (hW.trans (hW2.mono hW.size))))
  have CD2 := Lib.hid (fun W (hW : Below w4.heap.size w4 W) => drive_c Ab An As (some ⟨br, ro, none⟩) cb cn cs cr N ⟨7, y, true, 0, 0⟩ 2 ⟨x0, y, false, false⟩ true W (fun _ => ⟨hy0, hy48⟩) (fun W2 hW2 => HFo.out W2 (hW.trans (hW2.mono hW.size))))
  have CF := Lib.hid (fun W => finish_c ⟨7, -1, true, 1, y⟩ 2 ⟨y, -1, true, false⟩ W)
  have CA := Lib.hid (fun (f : Int) W => hear_c ⟨7, -1, true, 2, y⟩ 2 ⟨3, 2, old, 0, f⟩ W)
  have CA1 := Lib.hid (fun W => hear_c ⟨7, -1, true, 2, y⟩ 2 ⟨3, 2, 7, 0, 2⟩ W)
  have CG0 := Lib.hid (fun W => again_c ⟨7, -1, true, 0, 0⟩ 2 ⟨y, -1, false, false⟩ W)
  have CG1 := Lib.hid (fun W => again_c ⟨7, -1, true, 2, y⟩ 2 ⟨y, -1, false, false⟩ W)
  unfold AFPost at CH CA CA1
  unfold ABFPost at CD1 CD2 CF
  unfold FPost at CG0 CG1
  obtain ⟨k1, k2⟩ := rp_hear ⟨hy0, hy48⟩
  obtain ⟨k3, k4, k5⟩ := rp_drive1 hx0 hy0
  obtain ⟨k6, k7, k8⟩ := rp_drive2 hx0 hy0
  obtain ⟨k9, k10, k11⟩ := rp_fin hy0
  rw [k1, k2] at CH
  rw [k3, k4, k5] at CD1
  rw [k6, k7, k8] at CD2
  rw [k9, k10, k11] at CF
  rw [rp_ack1] at CA1
  rw [rp_again0] at CG0
  rw [rp_again1] at CG1
  clear k1 k2 k3 k4 k5 k6 k7 k8 k9 k10 k11 HFo
  go_upto_region 6 with fail
  have HY : Hid (BodAt (w4.alloc (.cells (BC ⟨x0, -1, false, false⟩) 34)) w4.heap.size ⟨x0, -1, false, false⟩) := Lib.hid (BodAt.new _ _)
  have HB : Hid (Below w4.heap.size w4 (w4.alloc (.cells (BC ⟨x0, -1, false, false⟩) 34))) := Lib.hid (below_newB _ _)
  have hwb : w4.heap.size < (w4.alloc (.cells (BC ⟨x0, -1, false, false⟩) 34)).heap.size := by simp
  generalize w4.alloc (.cells (BC ⟨x0, -1, false, false⟩) 34) = w5 at *
  obtain ⟨Yb, hYb⟩ : ∃ Yb, Yb = w4.heap.size := ⟨_, rfl⟩
  rw [← hYb] at HY hwb
  have hYw : w4.heap.size ≤ Yb := by omega
  rw [← hYb]
  clear x0c x1c x2c x3c x4c x5c x6c x7c hrob0 hYb
  obtain ⟨n0, n1, n2, n3, n4, n5, n6, n7⟩ := boxAt_of (HXC.out _ HB.out)
  obtain ⟨b0, b1, b2, b3⟩ := HY.out.cell
  have bf := HY.out.frozen
  go_wp2_with fail
  refine (HNx.out _ HB.out).mono ?_
  rintro e w6 ⟨u, rfl, hu, hb⟩
  obtain ⟨Aq, cq, rfl, hh⟩ := own_is hu
  obtain ⟨qb, qo, rfl, _, hq⟩ := hh.at_ (by simp)
  have HQ : Hid (CellI w6 qb qo y) := Lib.hid (show w6.cell? ⟨qb, qo, none⟩ = some (Iv y) from by simpa using hq 0 (by simp))
  have hqb := World.block_lt_of_cell? _ _ HQ.out
  have hq5 : w5.heap.size ≤ qb := (World.ownsRow.lt hu qb rfl).1
  replace HY := Lib.hid (HY.out.keep hb)
  replace HB := Lib.hid (HB.out.trans (hb.mono HB.out.size))
  clear hu hb hh hq HNx
  clear b0 b1 b2 b3 bf n0 n1 n2 n3 n4 n5 n6 n7
  go_upto_region 9 with fail
  have HS : Hid (∀ W, Below w6.heap.size w6 W → W.cell? ⟨qb, qo, none⟩ = some (Iv y)) := Lib.hid (fun W hW => HQ.out.keep hW)
  have CN := Lib.hid (fun W => new_c W)
  have hb1 : Below w6.heap.size w6 w6 := Below.refl _ _
  go_cut [12, 13] (fun p v wx => ∃ (Z1 : Nat) (A : Option Addr) (c : Nat), p = .pointer (some ⟨Z1, 0, none⟩) ∧ v = .slice A 1 c ∧ w6.heap.size ≤ Z1 ∧ Hid (AgAt wx Z1 ⟨7, y, true, 0, 0⟩) ∧ Hid (Below w6.heap.size w6 wx))
  case first =>
    clear CD1 CD2 CF CA CA1 CG0 CG1
    go_region_held3 (fun W => W.cell? ⟨qb, qo, none⟩ = some (Iv y)) (exact HS.out _ (by repeat (first | assumption | (with_reducible exact Below.refl _ _) | (with_reducible refine Below.drew ?_) | (with_reducible refine Below.alloc ?_ (by first | exact Nat.le_refl _ | exact hbB.size | exact hbA.size | (simp; done) | (simp; omega) | omega) _) | (refine below_put ?_ (by first | exact Nat.le_refl _ | exact hbA.size | exact hbB.size))))) (first | (go_at_call 22; (with_reducible refine (CN.out _).mono ?_); rintro e wA ⟨rfl, hbA0⟩; have hbA : Below w6.heap.size w6 wA := Below.trans (by repeat (first | assumption | (with_reducible exact Below.refl _ _) | (with_reducible refine Below.drew ?_) | (with_reducible refine Below.alloc ?_ (by first | exact Nat.le_refl _ | exact hbB.size | exact hbA.size | (simp; done) | (simp; omega) | omega) _) | (refine below_put ?_ (by first | exact Nat.le_refl _ | exact hbA.size | exact hbB.size)))) (hbA0.mono (by first | exact Nat.le_refl _ | (simp; done) | (simp; omega))); refine cut_firstA (a := AgAt wA w6.heap.size ⟨0, 0, false, 0, 0⟩) ?_ ?_; (focus (refine AgAt.keep ?_ hbA0; (repeat (first | assumption | (with_reducible exact AgAt.newz _) | (with_reducible exact AgAt.newd _) | (with_reducible exact AgAt.newe _) | (with_reducible refine AgAt.drewA ?_))); done)); intro hZ; clear hbA0) | (go_at_call 22; (with_reducible refine (CN.out _).mono ?_); rintro e wA ⟨rfl, hbA0⟩; have hbA : Below w6.heap.size w6 wA := Below.trans (by repeat (first | assumption | (with_reducible exact Below.refl _ _) | (with_reducible refine Below.drew ?_) | (with_reducible refine Below.alloc ?_ (by first | exact Nat.le_refl _ | exact hbB.size | exact hbA.size | (simp; done) | (simp; omega) | omega) _) | (refine below_put ?_ (by first | exact Nat.le_refl _ | exact hbA.size | exact hbB.size)))) (hbA0.mono (by first | exact Nat.le_refl _ | (simp; done) | (simp; omega))); clear hbA0) | (go_at_call 13; (with_reducible refine (CH.out _).mono ?_); rintro e wB ⟨v, rfl, hf, hbB0⟩; have hbB : Below w6.heap.size w6 wB := Below.trans (by repeat (first | assumption | (with_reducible exact Below.refl _ _) | (with_reducible refine Below.drew ?_) | (with_reducible refine Below.alloc ?_ (by first | exact Nat.le_refl _ | exact hbB.size | exact hbA.size | (simp; done) | (simp; omega) | omega) _) | (refine below_put ?_ (by first | exact Nat.le_refl _ | exact hbA.size | exact hbB.size)))) (hbB0.mono (by first | exact hbA.size | (simp; have := hbA.size; omega))); obtain ⟨AF, cF, rfl, _⟩ := hf.form; have hF : FrsR wB _ (.slice AF 1 cF) [⟨3, 2, 7, 0, 0⟩] := hf; have hhF : True := trivial; refine cut_firstA (a := AgAt wB w6.heap.size ⟨0, 0, false, 0, 0⟩) ?_ ?_; (focus (refine AgAt.keep ?_ hbB0; (repeat (first | assumption | (with_reducible exact AgAt.newz _) | (with_reducible exact AgAt.newd _) | (with_reducible exact AgAt.newe _) | (with_reducible refine AgAt.drewA ?_))); done)); intro hZB; obtain ⟨z0, z1, z2, z3, z4⟩ := AgAt.cell hZB; have zf := AgAt.frozen hZB; clear hbB0 hhF) | (go_at_call 13; (with_reducible refine (CH.out _).mono ?_); rintro e wB ⟨v, rfl, hf, hbB0⟩; have hbB : Below w6.heap.size w6 wB := Below.trans (by repeat (first | assumption | (with_reducible exact Below.refl _ _) | (with_reducible refine Below.drew ?_) | (with_reducible refine Below.alloc ?_ (by first | exact Nat.le_refl _ | exact hbB.size | exact hbA.size | (simp; done) | (simp; omega) | omega) _) | (refine below_put ?_ (by first | exact Nat.le_refl _ | exact hbA.size | exact hbB.size)))) (hbB0.mono (by first | exact hbA.size | (simp; have := hbA.size; omega))); obtain ⟨AF, cF, rfl, _⟩ := hf.form; have hF : FrsR wB _ (.slice AF 1 cF) [⟨3, 2, 7, 0, 0⟩] := hf; have hhF : True := trivial; refine cut_firstA (a := AgAt wB wA.heap.size ⟨0, 0, false, 0, 0⟩) ?_ ?_; (focus (refine AgAt.keep ?_ hbB0; (repeat (first | assumption | (with_reducible exact AgAt.newz _) | (with_reducible exact AgAt.newd _) | (with_reducible exact AgAt.newe _) | (with_reducible refine AgAt.drewA ?_))); done)); intro hZB; obtain ⟨z0, z1, z2, z3, z4⟩ := AgAt.cell hZB; have zf := AgAt.frozen hZB; clear hbB0 hhF) | (go_at_call 13; (with_reducible refine (CH.out _).mono ?_); rintro e wB ⟨v, rfl, hf, hbB0⟩; have hbB : Below w6.heap.size w6 wB := Below.trans (by repeat (first | assumption | (with_reducible exact Below.refl _ _) | (with_reducible refine Below.drew ?_) | (with_reducible refine Below.alloc ?_ (by first | exact Nat.le_refl _ | exact hbB.size | exact hbA.size | (simp; done) | (simp; omega) | omega) _) | (refine below_put ?_ (by first | exact Nat.le_refl _ | exact hbA.size | exact hbB.size)))) (hbB0.mono (by first | exact hbA.size | (simp; have := hbA.size; omega))); obtain ⟨AF, cF, rfl, _⟩ := hf.form; have hF : FrsR wB _ (.slice AF 1 cF) [⟨3, 2, 7, 0, 0⟩] := hf; have hhF : True := trivial; clear hbB0 hhF))
    all_goals go_wp2_with fail
    all_goals
      go_meet
      refine ⟨_, AF, cF, rfl, rfl, ?_, ?_, ?_⟩
      · first | exact hbB.size | exact hbA.size | exact Nat.le_refl _
      · refine Lib.hid ?_; first | (with_reducible exact AgAt.new wB ⟨7, y, true, 0, 0⟩) | (with_reducible exact hZB.put5 ⟨7, y, true, 0, 0⟩)
      · refine Lib.hid ?_; first | ((with_reducible refine Below.alloc hbB ?_ _); exact hbB.size) | ((with_reducible refine below_put5 hbB ?_ ⟨7, y, true, 0, 0⟩); first | exact hbA.size | exact Nat.le_refl _)
  case rest =>
    obtain ⟨Z1, A9, c9, rfl, rfl, hZ1, HA, hbc⟩ := hcut
    replace HY := Lib.hid (HY.out.keep hbc.out)
    replace HQ := Lib.hid (HQ.out.keep hbc.out)
    replace HB := Lib.hid (HB.out.trans (hbc.out.mono HB.out.size))
    have hw64 : w4.heap.size ≤ Z1 := by have := hbc.out.size; have := HB.out.size; omega
    clear hbc HS CN hb1 CH
    obtain ⟨n0, n1, n2, n3, n4, n5, n6, n7⟩ := boxAt_of (HXC.out _ HB.out)
    obtain ⟨a0, a1, a2, a3, a4⟩ := HA.out.cell
    have af := HA.out.frozen
    obtain ⟨b0, b1, b2, b3⟩ := HY.out.cell
    have bf := HY.out.frozen
    go_wp2_with fail
    refine (CD1.out _ HB.out).mono ?_
    rintro e w10c ⟨v, rfl, hf, hb⟩
    replace HA := Lib.hid (HA.out.keep hb)
    replace HY := Lib.hid (HY.out.keep hb)
    replace HQ := Lib.hid (HQ.out.keep hb)
    replace HB := Lib.hid (HB.out.trans (hb.mono HB.out.size))
    obtain ⟨Af, cf, rfl, _⟩ := hf.form
    clear hf hb CD1
    clear a0 a1 a2 a3 a4 af b0 b1 b2 b3 bf n0 n1 n2 n3 n4 n5 n6 n7
    obtain ⟨a0, a1, a2, a3, a4⟩ := HA.out.cell
    have af := HA.out.frozen
    obtain ⟨b0, b1, b2, b3⟩ := HY.out.cell
    have bf := HY.out.frozen
    go_upto_region 11 with fail
    have hg1 := put5A_grown w10c Z1 ⟨7, y, true, 0, 0⟩
    have hg2 := put4B_grown (put5A w10c Z1 ⟨7, y, true, 0, 0⟩) Yb ⟨x0, y, false, false⟩
    have nA : AgAt (put5A w10c Z1 ⟨7, y, true, 0, 0⟩) Z1 ⟨7, y, true, 0, 0⟩ := HA.out.put5 ⟨7, y, true, 0, 0⟩
    have nA2 := nA.grown hg2 (fun e => by injection e with e; omega)
    have nB : BodAt (put4B (put5A w10c Z1 ⟨7, y, true, 0, 0⟩) Yb ⟨x0, y, false, false⟩) Yb ⟨x0, y, false, false⟩ := (BodAt.grown HY.out hg1 (fun e => by injection e with e; omega)).put4 ⟨x0, y, false, false⟩
    replace HA := Lib.hid nA2
    replace HY := Lib.hid nB
    replace HQ := Lib.hid ((HQ.out.grown hg1 (fun e => by injection e with e; omega)).grown hg2 (fun e => by injection e with e; omega))
    replace HB := Lib.hid (put4B_below (X := Yb) (b := ⟨x0, y, false, false⟩) (put5A_below (X := Z1) (a := ⟨7, y, true, 0, 0⟩) HB.out (by omega)) (by omega))
    change Code.wp _ _ _ _ (put4B (put5A w10c Z1 ⟨7, y, true, 0, 0⟩) Yb ⟨x0, y, false, false⟩)
    generalize put4B (put5A w10c Z1 ⟨7, y, true, 0, 0⟩) Yb ⟨x0, y, false, false⟩ = w11 at *
    clear hg1 hg2 nA nA2 nB
    clear a0 a1 a2 a3 a4 af b0 b1 b2 b3 bf
    obtain ⟨n0, n1, n2, n3, n4, n5, n6, n7⟩ := boxAt_of (HXC.out _ HB.out)
    obtain ⟨a0, a1, a2, a3, a4⟩ := HA.out.cell
    have af := HA.out.frozen
    obtain ⟨b0, b1, b2, b3⟩ := HY.out.cell
    have bf := HY.out.frozen
    have hzl := block_lt HA.out
    have hyl := block_lt HY.out
    go_wp2_with fail
    refine (CD2.out _ HB.out).mono ?_
    rintro e w11c ⟨v, rfl, hf, hb⟩
    replace HA := Lib.hid (HA.out.keep hb)
    replace HY := Lib.hid (HY.out.keep hb)
    replace HQ := Lib.hid (HQ.out.keep hb)
    replace HB := Lib.hid (HB.out.trans (hb.mono HB.out.size))
    have HFr := Lib.hid hf
    obtain ⟨Af, cf, rfl, _⟩ := hf.form
    clear hf hb CD2
    clear a0 a1 a2 a3 a4 af b0 b1 b2 b3 bf n0 n1 n2 n3 n4 n5 n6 n7
    obtain ⟨a0, a1, a2, a3, a4⟩ := HA.out.cell
    have af := HA.out.frozen
    obtain ⟨b0, b1, b2, b3⟩ := HY.out.cell
    have bf := HY.out.frozen
    go_upto_region 12 with fail
    have hg1 := put5A_grown w11c Z1 ⟨7, -1, true, 1, y⟩
    have hg2 := put4B_grown (put5A w11c Z1 ⟨7, -1, true, 1, y⟩) Yb ⟨y, -1, true, false⟩
    have nA : AgAt (put5A w11c Z1 ⟨7, -1, true, 1, y⟩) Z1 ⟨7, -1, true, 1, y⟩ := HA.out.put5 ⟨7, -1, true, 1, y⟩
    have nA2 := nA.grown hg2 (fun e => by injection e with e; omega)
    have nB : BodAt (put4B (put5A w11c Z1 ⟨7, -1, true, 1, y⟩) Yb ⟨y, -1, true, false⟩) Yb ⟨y, -1, true, false⟩ := (BodAt.grown HY.out hg1 (fun e => by injection e with e; omega)).put4 ⟨y, -1, true, false⟩
    replace HA := Lib.hid nA2
    replace HY := Lib.hid nB
    replace HQ := Lib.hid ((HQ.out.grown hg1 (fun e => by injection e with e; omega)).grown hg2 (fun e => by injection e with e; omega))
    replace HB := Lib.hid (put4B_below (X := Yb) (b := ⟨y, -1, true, false⟩) (put5A_below (X := Z1) (a := ⟨7, -1, true, 1, y⟩) HB.out (by omega)) (by omega))
    replace HFr := Lib.hid ((HFr.out.far hg1 (by omega)).far hg2 (by omega))
    change Code.wp _ _ _ _ (put4B (put5A w11c Z1 ⟨7, -1, true, 1, y⟩) Yb ⟨y, -1, true, false⟩)
    generalize put4B (put5A w11c Z1 ⟨7, -1, true, 1, y⟩) Yb ⟨y, -1, true, false⟩ = w12 at *
    clear hg1 hg2 nA nA2 nB
    clear a0 a1 a2 a3 a4 af b0 b1 b2 b3 bf
    clear hzl hyl
    have q0 := HQ.out
    unfold CellI at q0
    go_upto_region 13 with fail
    have HV : Hid (FrAt (w12.alloc (.cells (FC ⟨2, 2, 7, y, 1⟩) 36)) w12.heap.size ⟨2, 2, 7, y, 1⟩) := Lib.hid (FrAt.new w12 _)
    have hbv := below_newF w12 (.cells (FC ⟨2, 2, 7, y, 1⟩) 36)
    have hvz : Z1 < w12.heap.size := block_lt HA.out
    have hvy : Yb < w12.heap.size := block_lt HY.out
    replace HA := Lib.hid (HA.out.keep hbv)
    replace HY := Lib.hid (HY.out.keep hbv)
    replace HQ := Lib.hid (HQ.out.keep hbv)
    replace HFr := Lib.hid (HFr.out.keep hbv)
    replace HB := Lib.hid (HB.out.trans (hbv.mono HB.out.size))
    generalize w12.alloc (.cells (FC ⟨2, 2, 7, y, 1⟩) 36) = w13 at *
    obtain ⟨Vb, hVb⟩ : ∃ Vb, Vb = w12.heap.size := ⟨_, rfl⟩
    rw [← hVb] at HV hvz hvy ⊢
    clear hbv q0 hVb
    have q0 := HQ.out
    unfold CellI at q0
    obtain ⟨a0, a1, a2, a3, a4⟩ := HA.out.cell
    have af := HA.out.frozen
    obtain ⟨b0, b1, b2, b3⟩ := HY.out.cell
    have bf := HY.out.frozen
    obtain ⟨v0, v1, v2, v3, v4⟩ := HV.out.cell
    obtain ⟨Ak, ck, ek, hhk⟩ := HFr.out.form
    have ek2 : Ak = Af ∧ ck = cf := by injection ek with e1 _ e3; exact ⟨e1.symm, e3.symm⟩
    obtain ⟨rfl, rfl⟩ := ek2
    obtain ⟨b7, o7, rfl, _, f0, f1, f2, f3, f4⟩ := holds_frm hhk (k := 0) (by simp)
    simp only [List.getElem_cons_zero, Nat.zero_mul, Nat.add_zero] at f0 f1 f2 f3 f4
    clear hhk ek
    have hef := fun (f : FrD) W => eq_frame f f W
    have hgd := guard_frame
    simp only [decide_true] at hef
    have hyy : (y != y) = false := by simp
    go_quiet (fail)
    have hbq : Below w13.heap.size w13 (w13.drewN nq) := below_drewN (Below.refl _ _) nq
    replace HA := Lib.hid (HA.out.keep hbq)
    replace HY := Lib.hid (HY.out.keep hbq)
    replace HQ := Lib.hid (HQ.out.keep hbq)
    replace HV := Lib.hid (HV.out.keep hbq)
    replace HB := Lib.hid (HB.out.trans (hbq.mono HB.out.size))
    generalize w13.drewN nq = w14 at *
    clear hbq
    clear q0 HFr hef hgd hyy
    clear a0 a1 a2 a3 a4 af b0 b1 b2 b3 bf v0 v1 v2 v3 v4 f0 f1 f2 f3 f4
    obtain ⟨a0, a1, a2, a3, a4⟩ := HA.out.cell
    have af := HA.out.frozen
    obtain ⟨b0, b1, b2, b3⟩ := HY.out.cell
    have bf := HY.out.frozen
    have hzl := block_lt HA.out
    have hyl := block_lt HY.out
    have hvm := block_lt HV.out
    go_wp2_with fail
    refine (CF.out _).mono ?_
    rintro e w15c ⟨v, rfl, hf, hb⟩
    replace HA := Lib.hid (HA.out.keep hb)
    replace HY := Lib.hid (HY.out.keep hb)
    replace HQ := Lib.hid (HQ.out.keep hb)
    replace HV := Lib.hid (HV.out.keep hb)
    replace HB := Lib.hid (HB.out.trans (hb.mono HB.out.size))
    have HFr := Lib.hid hf
    obtain ⟨Af, cf, rfl, _⟩ := hf.form
    clear hf hb CF
    clear a0 a1 a2 a3 a4 af b0 b1 b2 b3 bf
    have hvl := block_lt HV.out
    obtain ⟨a0, a1, a2, a3, a4⟩ := HA.out.cell
    have af := HA.out.frozen
    obtain ⟨b0, b1, b2, b3⟩ := HY.out.cell
    have bf := HY.out.frozen
    go_upto_region 16 with fail
    have hg1 := put5A_grown w15c Z1 ⟨7, -1, true, 2, y⟩
    have hg2 := put4B_grown (put5A w15c Z1 ⟨7, -1, true, 2, y⟩) Yb ⟨y, -1, false, false⟩
    have nA : AgAt (put5A w15c Z1 ⟨7, -1, true, 2, y⟩) Z1 ⟨7, -1, true, 2, y⟩ := HA.out.put5 ⟨7, -1, true, 2, y⟩
    have nA2 := nA.grown hg2 (fun e => by injection e with e; omega)
    have nB : BodAt (put4B (put5A w15c Z1 ⟨7, -1, true, 2, y⟩) Yb ⟨y, -1, false, false⟩) Yb ⟨y, -1, false, false⟩ := (BodAt.grown HY.out hg1 (fun e => by injection e with e; omega)).put4 ⟨y, -1, false, false⟩
    replace HA := Lib.hid nA2
    replace HY := Lib.hid nB
    replace HQ := Lib.hid ((HQ.out.grown hg1 (fun e => by injection e with e; omega)).grown hg2 (fun e => by injection e with e; omega))
    replace HB := Lib.hid (put4B_below (X := Yb) (b := ⟨y, -1, false, false⟩) (put5A_below (X := Z1) (a := ⟨7, -1, true, 2, y⟩) HB.out (by omega)) (by omega))
    replace HFr := Lib.hid ((HFr.out.far hg1 (by omega)).far hg2 (by omega))
    replace HV := Lib.hid ((HV.out.grown hg1 (fun e => by injection e with e; omega)).grown hg2 (fun e => by injection e with e; omega))
    change Code.wp _ _ _ _ (put4B (put5A w15c Z1 ⟨7, -1, true, 2, y⟩) Yb ⟨y, -1, false, false⟩)
    generalize put4B (put5A w15c Z1 ⟨7, -1, true, 2, y⟩) Yb ⟨y, -1, false, false⟩ = w16 at *
    clear hg1 hg2 nA nA2 nB
    clear a0 a1 a2 a3 a4 af b0 b1 b2 b3 bf
    clear hzl hyl
    obtain ⟨v0, v1, v2, v3, v4⟩ := HV.out.cell
    have vf := FrAt.frozenAll HV.out
    go_upto_region 17 with fail
    have hg1 : w16.grownBy (w16.setCell ⟨Vb, 4, none⟩ (.int .i64 2)) (some Vb) := grown_put (Below.refl w16.heap.size w16) (Nat.le_refl _)
    have nV : FrAt (w16.setCell ⟨Vb, 4, none⟩ (.int .i64 2)) Vb ⟨2, 2, 7, y, 2⟩ := HV.out.put4f
    replace HV := Lib.hid nV
    replace HA := Lib.hid (HA.out.grown hg1 (fun e => by injection e with e; omega))
    replace HY := Lib.hid (BodAt.grown HY.out hg1 (fun e => by injection e with e; omega))
    replace HFr := Lib.hid (HFr.out.far hg1 (by omega))
    replace HB := Lib.hid (below_put (g := Vb) (i := 4) (v := .int .i64 2) HB.out (by omega))
    generalize w16.setCell ⟨Vb, 4, none⟩ (.int .i64 2) = w17 at *
    clear hg1 nV vf HQ hvl
    clear v0 v1 v2 v3 v4
    obtain ⟨b0, b1, b2, b3⟩ := HY.out.cell
    obtain ⟨v0, v1, v2, v3, v4⟩ := HV.out.cell
    obtain ⟨Ak, ck, ek, hhk⟩ := HFr.out.form
    have ek2 : Ak = Af ∧ ck = cf := by injection ek with e1 _ e3; exact ⟨e1.symm, e3.symm⟩
    obtain ⟨rfl, rfl⟩ := ek2
    obtain ⟨b7, o7, rfl, _, f0, f1, f2, f3, f4⟩ := holds_frm hhk (k := 0) (by simp)
    simp only [List.getElem_cons_zero, Nat.zero_mul, Nat.add_zero] at f0 f1 f2 f3 f4
    clear hhk ek
    have hef := fun (f : FrD) W => eq_frame f f W
    have hgd := guard_frame
    simp only [decide_true] at hef
    go_quiet (fail)
    have hbq : Below w17.heap.size w17 (w17.drewN nq) := below_drewN (Below.refl _ _) nq
    replace HA := Lib.hid (HA.out.keep hbq)
    replace HY := Lib.hid (HY.out.keep hbq)
    replace HV := Lib.hid (HV.out.keep hbq)
    replace HB := Lib.hid (HB.out.trans (hbq.mono HB.out.size))
    generalize w17.drewN nq = w18 at *
    clear hbq
    clear HFr hef hgd
    clear b0 b1 b2 b3 v0 v1 v2 v3 v4 f0 f1 f2 f3 f4
    go_wp2_with fail
    refine (CC.out _).mono ?_
    rintro e w19 ⟨r, hr, rfl, rfl⟩
    go_upto_region 20 with fail
    have HK : Hid (FrAt (w18.alloc (.cells (FC ⟨3, 2, old, 0, (r : Int)⟩) 36)) w18.heap.size ⟨3, 2, old, 0, (r : Int)⟩) := Lib.hid (FrAt.new w18 _)
    have hbv := below_newF w18 (.cells (FC ⟨3, 2, old, 0, (r : Int)⟩) 36)
    replace HA := Lib.hid (HA.out.keep hbv)
    replace HY := Lib.hid (HY.out.keep hbv)
    replace HV := Lib.hid (HV.out.keep hbv)
    replace HB := Lib.hid (HB.out.trans (hbv.mono HB.out.size))
    generalize w18.alloc (.cells (FC ⟨3, 2, old, 0, (r : Int)⟩) 36) = w19 at *
    have hcb4 : w4.heap.size ≤ w19.heap.size := HB.out.size
    generalize w18.heap.size = Kb at *
    clear hbv CC
    obtain ⟨a0, a1, a2, a3, a4⟩ := HA.out.cell
    obtain ⟨k0, k1, k2, k3, k4⟩ := HK.out.cell
    by_cases ho : old = 7
    · have ho' : (old == 7) = true := by simpa using ho
      by_cases hr2 : r = 2
      · have hr2' : ((r : Int) == 2) = true := by simp [hr2]
        have CAX := Lib.hid (fun W => CA.out (r : Int) W)
        rw [show hearA ⟨7, -1, true, 2, y⟩ 2 ⟨3, 2, old, 0, (r : Int)⟩ = ⟨7, -1, true, 0, 0⟩ from by rw [ho, hr2]; exact rp_ack1] at CAX
        clear CA CA1 CG1 ho hr2 HV
        go_wp2_with fail
        refine (CAX.out _).mono ?_
        rintro e w20a ⟨v, rfl, hf, hb⟩
        replace HA := Lib.hid (HA.out.keep hb)
        replace HY := Lib.hid (HY.out.keep hb)
        replace HB := Lib.hid (HB.out.trans (hb.mono HB.out.size))
        obtain ⟨Aj, cj, rfl, _⟩ := hf.form
        clear hf hb
        clear a0 a1 a2 a3 a4 k0 k1 k2 k3 k4
        go_upto_region 22 with fail
        have hyb1 := HY.out
        have hcb1 := HB.out.size
        have HC : Hid (AgAt (w20a.alloc (.cells (AC ⟨7, -1, true, 0, 0⟩) 32)) w20a.heap.size ⟨7, -1, true, 0, 0⟩) := Lib.hid (AgAt.new w20a _)
        have hbv := below_newF w20a (.cells (AC ⟨7, -1, true, 0, 0⟩) 32)
        replace HA := Lib.hid (HA.out.keep hbv)
        replace HY := Lib.hid (HY.out.keep hbv)
        replace HB := Lib.hid (HB.out.trans (hbv.mono HB.out.size))
        generalize w20a.alloc (.cells (AC ⟨7, -1, true, 0, 0⟩) 32) = w20b at *
        have hcb : w4.heap.size ≤ w20a.heap.size ∧ Yb < w20a.heap.size := ⟨hcb1, block_lt hyb1⟩
        generalize w20a.heap.size = Cb at *
        clear hbv hyb1 hcb1
        obtain ⟨c0, c1, c2, c3, c4⟩ := HC.out.cell
        obtain ⟨b0, b1, b2, b3⟩ := HY.out.cell
        go_wp2_with fail
        refine (CG0.out _).mono ?_
        rintro e w20c ⟨v, rfl, hf, hb⟩
        replace HA := Lib.hid (HA.out.keep hb)
        replace HY := Lib.hid (HY.out.keep hb)
        replace HC := Lib.hid (HC.out.keep hb)
        replace HB := Lib.hid (HB.out.trans (hb.mono HB.out.size))
        have HFr := Lib.hid hf
        obtain ⟨Af, cf, rfl, _⟩ := hf.form
        clear hf hb CG0
        clear c0 c1 c2 c3 c4 b0 b1 b2 b3
        go_wp2
        go_ret
        exact ⟨by first | rfl | simp, HBw.out.trans (HB.out.mono HBw.out.size)⟩
      · have hr2' : ((r : Int) == 2) = false := by rw [beq_eq_false_iff_ne]; omega
        have hno : ¬ (old = 7 ∧ (r : Int) = 2) := fun h => hr2 (by omega)
        clear ho hr2
        have CAX := Lib.hid (fun W => CA.out (r : Int) W)
        rw [rp_ack0 hno] at CAX
        clear CA hno
        go_wp2_with fail
        refine (CAX.out _).mono ?_
        rintro e w20a ⟨v, rfl, hf, hb⟩
        replace HA := Lib.hid (HA.out.keep hb)
        replace HY := Lib.hid (HY.out.keep hb)
        replace HV := Lib.hid (HV.out.keep hb)
        replace HB := Lib.hid (HB.out.trans (hb.mono HB.out.size))
        obtain ⟨Aj, cj, rfl, _⟩ := hf.form
        clear hf hb
        clear a0 a1 a2 a3 a4 k0 k1 k2 k3 k4
        go_upto_region 22 with fail
        have hyb1 := HY.out
        have hcb1 := HB.out.size
        have HC : Hid (AgAt (w20a.alloc (.cells (AC ⟨7, -1, true, 2, y⟩) 32)) w20a.heap.size ⟨7, -1, true, 2, y⟩) := Lib.hid (AgAt.new w20a _)
        have hbv := below_newF w20a (.cells (AC ⟨7, -1, true, 2, y⟩) 32)
        replace HA := Lib.hid (HA.out.keep hbv)
        replace HY := Lib.hid (HY.out.keep hbv)
        replace HV := Lib.hid (HV.out.keep hbv)
        replace HB := Lib.hid (HB.out.trans (hbv.mono HB.out.size))
        generalize w20a.alloc (.cells (AC ⟨7, -1, true, 2, y⟩) 32) = w20b at *
        have hcb : w4.heap.size ≤ w20a.heap.size ∧ Yb < w20a.heap.size := ⟨hcb1, block_lt hyb1⟩
        generalize w20a.heap.size = Cb at *
        clear hbv hyb1 hcb1
        obtain ⟨c0, c1, c2, c3, c4⟩ := HC.out.cell
        obtain ⟨b0, b1, b2, b3⟩ := HY.out.cell
        go_wp2_with fail
        refine (CG1.out _).mono ?_
        rintro e w20c ⟨v, rfl, hf, hb⟩
        replace HA := Lib.hid (HA.out.keep hb)
        replace HY := Lib.hid (HY.out.keep hb)
        replace HV := Lib.hid (HV.out.keep hb)
        replace HC := Lib.hid (HC.out.keep hb)
        replace HB := Lib.hid (HB.out.trans (hb.mono HB.out.size))
        have HFr := Lib.hid hf
        obtain ⟨Af, cf, rfl, _⟩ := hf.form
        clear hf hb CG1
        clear c0 c1 c2 c3 c4 b0 b1 b2 b3
        obtain ⟨a0, a1, a2, a3, a4⟩ := HA.out.cell
        obtain ⟨c0, c1, c2, c3, c4⟩ := HC.out.cell
        obtain ⟨v0, v1, v2, v3, v4⟩ := HV.out.cell
        obtain ⟨Ak, ck, ek, hhk⟩ := HFr.out.form
        have ek2 : Ak = Af ∧ ck = cf := by injection ek with e1 _ e3; exact ⟨e1.symm, e3.symm⟩
        obtain ⟨rfl, rfl⟩ := ek2
        obtain ⟨b7, o7, rfl, _, f0, f1, f2, f3, f4⟩ := holds_frm hhk (k := 0) (by simp)
        simp only [List.getElem_cons_zero, Nat.zero_mul, Nat.add_zero] at f0 f1 f2 f3 f4
        clear hhk ek
        have hef := fun (f : FrD) W => eq_frame f f W
        have hgd := guard_frame
        simp only [decide_true] at hef
        have hea := fun (f : AgtD) W => eq_ag f f W
        have hga := guard_ag
        simp only [decide_true] at hea
        go_wp2_with fail
        go_quiet (fail)
        have hbq : Below w20c.heap.size w20c (w20c.drewN nq) := below_drewN (Below.refl _ _) nq
        replace HA := Lib.hid (HA.out.keep hbq)
        replace HY := Lib.hid (HY.out.keep hbq)
        replace HC := Lib.hid (HC.out.keep hbq)
        replace HB := Lib.hid (HB.out.trans (hbq.mono HB.out.size))
        generalize w20c.drewN nq = w21 at *
        clear hbq
        clear HFr hef hgd hea hga HV
        clear a0 a1 a2 a3 a4 c0 c1 c2 c3 c4 v0 v1 v2 v3 v4 f0 f1 f2 f3 f4
        obtain ⟨a0, a1, a2, a3, a4⟩ := HA.out.cell
        go_wp2_with fail
        refine (CA1.out _).mono ?_
        rintro e w22 ⟨v, rfl, hf, hb⟩
        replace HY := Lib.hid (HY.out.keep hb)
        replace HC := Lib.hid (HC.out.keep hb)
        replace HB := Lib.hid (HB.out.trans (hb.mono HB.out.size))
        obtain ⟨Ai, ci, rfl, _⟩ := hf.form
        clear hf hb CA1 HA
        clear a0 a1 a2 a3 a4
        obtain ⟨c0, c1, c2, c3, c4⟩ := HC.out.cell
        have cf := HC.out.frozen
        go_upto_region 28 with fail
        have hg1 := put5A_grown w22 Cb ⟨7, -1, true, 0, 0⟩
        have nC : AgAt (put5A w22 Cb ⟨7, -1, true, 0, 0⟩) Cb ⟨7, -1, true, 0, 0⟩ := HC.out.put5 ⟨7, -1, true, 0, 0⟩
        replace HC := Lib.hid nC
        replace HY := Lib.hid (BodAt.grown HY.out hg1 (fun e => by injection e with e; omega))
        replace HB := Lib.hid (put5A_below (X := Cb) (a := ⟨7, -1, true, 0, 0⟩) HB.out (by omega))
        change Code.wp _ _ _ _ (put5A w22 Cb ⟨7, -1, true, 0, 0⟩)
        generalize put5A w22 Cb ⟨7, -1, true, 0, 0⟩ = w23 at *
        clear hg1 nC
        clear c0 c1 c2 c3 c4 cf
        obtain ⟨c0, c1, c2, c3, c4⟩ := HC.out.cell
        obtain ⟨b0, b1, b2, b3⟩ := HY.out.cell
        go_wp2_with fail
        refine (CG0.out _).mono ?_
        rintro e w24 ⟨v, rfl, hf, hb⟩
        replace HB := Lib.hid (HB.out.trans (hb.mono HB.out.size))
        obtain ⟨Ae, ce, rfl, _⟩ := hf.form
        clear hf hb CG0
        go_wp2
        go_ret
        exact ⟨by first | rfl | simp, HBw.out.trans (HB.out.mono HBw.out.size)⟩
    · have ho' : (old == 7) = false := by simpa using ho
      have hno : ¬ (old = 7 ∧ (r : Int) = 2) := fun h => ho h.1
      clear ho
      have CAX := Lib.hid (fun W => CA.out (r : Int) W)
      rw [rp_ack0 hno] at CAX
      clear CA hno
      go_wp2_with fail
      refine (CAX.out _).mono ?_
      rintro e w20a ⟨v, rfl, hf, hb⟩
      replace HA := Lib.hid (HA.out.keep hb)
      replace HY := Lib.hid (HY.out.keep hb)
      replace HV := Lib.hid (HV.out.keep hb)
      replace HB := Lib.hid (HB.out.trans (hb.mono HB.out.size))
      obtain ⟨Aj, cj, rfl, _⟩ := hf.form
      clear hf hb
      clear a0 a1 a2 a3 a4 k0 k1 k2 k3 k4
      go_upto_region 22 with fail
      have hyb1 := HY.out
      have hcb1 := HB.out.size
      have HC : Hid (AgAt (w20a.alloc (.cells (AC ⟨7, -1, true, 2, y⟩) 32)) w20a.heap.size ⟨7, -1, true, 2, y⟩) := Lib.hid (AgAt.new w20a _)
      have hbv := below_newF w20a (.cells (AC ⟨7, -1, true, 2, y⟩) 32)
      replace HA := Lib.hid (HA.out.keep hbv)
      replace HY := Lib.hid (HY.out.keep hbv)
      replace HV := Lib.hid (HV.out.keep hbv)
      replace HB := Lib.hid (HB.out.trans (hbv.mono HB.out.size))
      generalize w20a.alloc (.cells (AC ⟨7, -1, true, 2, y⟩) 32) = w20b at *
      have hcb : w4.heap.size ≤ w20a.heap.size ∧ Yb < w20a.heap.size := ⟨hcb1, block_lt hyb1⟩
      generalize w20a.heap.size = Cb at *
      clear hbv hyb1 hcb1
      obtain ⟨c0, c1, c2, c3, c4⟩ := HC.out.cell
      obtain ⟨b0, b1, b2, b3⟩ := HY.out.cell
      go_wp2_with fail
      refine (CG1.out _).mono ?_
      rintro e w20c ⟨v, rfl, hf, hb⟩
      replace HA := Lib.hid (HA.out.keep hb)
      replace HY := Lib.hid (HY.out.keep hb)
      replace HV := Lib.hid (HV.out.keep hb)
      replace HC := Lib.hid (HC.out.keep hb)
      replace HB := Lib.hid (HB.out.trans (hb.mono HB.out.size))
      have HFr := Lib.hid hf
      obtain ⟨Af, cf, rfl, _⟩ := hf.form
      clear hf hb CG1
      clear c0 c1 c2 c3 c4 b0 b1 b2 b3
      obtain ⟨a0, a1, a2, a3, a4⟩ := HA.out.cell
      obtain ⟨c0, c1, c2, c3, c4⟩ := HC.out.cell
      obtain ⟨v0, v1, v2, v3, v4⟩ := HV.out.cell
      obtain ⟨Ak, ck, ek, hhk⟩ := HFr.out.form
      have ek2 : Ak = Af ∧ ck = cf := by injection ek with e1 _ e3; exact ⟨e1.symm, e3.symm⟩
      obtain ⟨rfl, rfl⟩ := ek2
      obtain ⟨b7, o7, rfl, _, f0, f1, f2, f3, f4⟩ := holds_frm hhk (k := 0) (by simp)
      simp only [List.getElem_cons_zero, Nat.zero_mul, Nat.add_zero] at f0 f1 f2 f3 f4
      clear hhk ek
      have hef := fun (f : FrD) W => eq_frame f f W
      have hgd := guard_frame
      simp only [decide_true] at hef
      have hea := fun (f : AgtD) W => eq_ag f f W
      have hga := guard_ag
      simp only [decide_true] at hea
      go_wp2_with fail
      go_quiet (fail)
      have hbq : Below w20c.heap.size w20c (w20c.drewN nq) := below_drewN (Below.refl _ _) nq
      replace HA := Lib.hid (HA.out.keep hbq)
      replace HY := Lib.hid (HY.out.keep hbq)
      replace HC := Lib.hid (HC.out.keep hbq)
      replace HB := Lib.hid (HB.out.trans (hbq.mono HB.out.size))
      generalize w20c.drewN nq = w21 at *
      clear hbq
      clear HFr hef hgd hea hga HV
      clear a0 a1 a2 a3 a4 c0 c1 c2 c3 c4 v0 v1 v2 v3 v4 f0 f1 f2 f3 f4
      obtain ⟨a0, a1, a2, a3, a4⟩ := HA.out.cell
      go_wp2_with fail
      refine (CA1.out _).mono ?_
      rintro e w22 ⟨v, rfl, hf, hb⟩
      replace HY := Lib.hid (HY.out.keep hb)
      replace HC := Lib.hid (HC.out.keep hb)
      replace HB := Lib.hid (HB.out.trans (hb.mono HB.out.size))
      obtain ⟨Ai, ci, rfl, _⟩ := hf.form
      clear hf hb CA1 HA
      clear a0 a1 a2 a3 a4
      obtain ⟨c0, c1, c2, c3, c4⟩ := HC.out.cell
      have cf := HC.out.frozen
      go_upto_region 28 with fail
      have hg1 := put5A_grown w22 Cb ⟨7, -1, true, 0, 0⟩
      have nC : AgAt (put5A w22 Cb ⟨7, -1, true, 0, 0⟩) Cb ⟨7, -1, true, 0, 0⟩ := HC.out.put5 ⟨7, -1, true, 0, 0⟩
      replace HC := Lib.hid nC
      replace HY := Lib.hid (BodAt.grown HY.out hg1 (fun e => by injection e with e; omega))
      replace HB := Lib.hid (put5A_below (X := Cb) (a := ⟨7, -1, true, 0, 0⟩) HB.out (by omega))
      change Code.wp _ _ _ _ (put5A w22 Cb ⟨7, -1, true, 0, 0⟩)
      generalize put5A w22 Cb ⟨7, -1, true, 0, 0⟩ = w23 at *
      clear hg1 nC
      clear c0 c1 c2 c3 c4 cf
      obtain ⟨c0, c1, c2, c3, c4⟩ := HC.out.cell
      obtain ⟨b0, b1, b2, b3⟩ := HY.out.cell
      go_wp2_with fail
      refine (CG0.out _).mono ?_
      rintro e w24 ⟨v, rfl, hf, hb⟩
      replace HB := Lib.hid (HB.out.trans (hb.mono HB.out.size))
      obtain ⟨Ae, ce, rfl, _⟩ := hf.form
      clear hf hb CG0
      go_wp2
      go_ret
      exact ⟨by first | rfl | simp, HBw.out.trans (HB.out.mono HBw.out.size)⟩
end Go.Proofs.Ytmdnkpiihhaoeaa
