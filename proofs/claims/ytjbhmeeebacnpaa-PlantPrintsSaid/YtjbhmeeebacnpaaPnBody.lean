/- Contract of law 16's body: a body made from the tape. -/
import Derived.Test.YtjbhmeeebacnpaaPnChg
namespace Go.Proofs.Ytjbhmeeebacnpaa
open Go Go.RowKit Fl

theorem BodAt.grown {w w' : World} {b : Nat} {q : BodD} {row : Option Nat} (h : BodAt w b q) (hg : w.grownBy w' row) (hr : row ≠ some b) : BodAt w' b q := (hg.block b (block_lt h) (fun e => hr e.symm)).trans h
theorem gbB_next {w a b : World} {g : Nat} (h : w.grownBy a (some g)) (k : a.grownBy b (some g)) : w.grownBy b (some g) :=
  ⟨k.os.trans h.os, k.tape.trans h.tape, k.output.trans h.output, Nat.le_trans h.size k.size, fun i hi hn => (k.block i (Nat.lt_of_lt_of_le hi h.size) hn).trans (h.block i hi hn)⟩
theorem gbB_below {w a b : World} {g : Nat} (h : w.grownBy a (some g)) (k : Below w.heap.size a b) : w.grownBy b (some g) :=
  ⟨k.os.trans h.os, k.tape.trans h.tape, k.output.trans h.output, Nat.le_trans h.size k.size, fun i hi hn => (k.block i hi).trans (h.block i hi hn)⟩
theorem gbB_refl (w : World) (g : Nat) : w.grownBy w (some g) := ⟨rfl, rfl, rfl, Nat.le_refl _, fun _ _ _ => rfl⟩
/-- What the making of a body has so far: the zero result in R, the body in X. -/
structure BM (w : World) (B gt T R X : Nat) (q : BodD) (wx : World) : Prop where
  gb : w.grownBy wx (some gt)
  tape : TapeOk wx B gt T
  zero : BodAt wx R zeroB
  bd : BodAt wx X q
theorem BM.next {w wx wy : World} {B gt T R X : Nat} {q : BodD} (h : BM w B gt T R X q wx) (ht : TapeOk wy B gt (T + 1)) (hg : wx.grownBy wy (some gt)) (hR : R ≠ gt) (hX : X ≠ gt) : BM w B gt (T + 1) R X q wy :=
  ⟨gbB_next h.gb hg, ht, h.zero.grown hg (fun e => by injection e with e; exact hR e.symm), h.bd.grown hg (fun e => by injection e with e; exact hX e.symm)⟩
theorem BM.put {w wx : World} {B gt T R X i : Nat} {q q' : BodD} {v : Value} (h : BM w B gt T R X q wx) (hR : R ≠ X) (hX : X ≠ gt) (hw : w.heap.size ≤ X) (hB : B ≤ X) (hf : (BC q).setIfInBounds i v = BC q') : BM w B gt T R X q' (wx.setCell ⟨X, i, none⟩ v) := by
  have hg : wx.grownBy (wx.setCell ⟨X, i, none⟩ v) (some X) := ⟨rfl, rfl, rfl, by simp [World.setCell], fun k _ hne => Below.heap_setCell wx ⟨X, i, none⟩ v k (fun e => hne (by rw [e]))⟩
  refine ⟨gbB_below h.gb ((Below.refl _ _).setCell (by simpa using hw) _), h.tape.grown hg (fun e => by injection e with e; exact hX e) (fun k hk => by injection hk with hk; omega), h.zero.grown hg (fun e => by injection e with e; exact hR e.symm), ?_⟩
  have := h.bd
  unfold BodAt at this ⊢
  rw [← hf]
  simp [World.setCell, Array.getElem?_modify, this]
def put4W (w : World) (b : Nat) (f : BodD) : World := (((w.setCell ⟨b, 0, none⟩ (.int .i64 f.cel)).setCell ⟨b, 1, none⟩ (.int .i64 f.dst)).setCell ⟨b, 2, none⟩ (.bool f.srv)).setCell ⟨b, 3, none⟩ (.bool f.flt)
theorem BM.done {w wx : World} {B gt T R X : Nat} {f : BodD} (h : BM w B gt T R X f wx) (hR : w.heap.size ≤ R) (hB : B ≤ R) (hg : R ≠ gt) : BodAt (put4W wx R f) R f ∧ TapeOk (put4W wx R f) B gt T ∧ w.grownBy (put4W wx R f) (some gt) := by
  have hb : Below R wx (put4W wx R f) := below_put (below_put (below_put (below_put (Below.refl _ _) (Nat.le_refl _)) (Nat.le_refl _)) (Nat.le_refl _)) (Nat.le_refl _)
  have hgr : wx.grownBy (put4W wx R f) (some R) := by
    have h1 : ∀ (a : World) (i : Nat) (v : Value), a.grownBy (a.setCell ⟨R, i, none⟩ v) (some R) := fun a i v => ⟨rfl, rfl, rfl, by simp [World.setCell], fun k _ hne => Below.heap_setCell a ⟨R, i, none⟩ v k (fun e => hne (by rw [e]))⟩
    exact gbB_next (gbB_next (gbB_next (h1 _ _ _) (h1 _ _ _)) (h1 _ _ _)) (h1 _ _ _)
  exact ⟨h.zero.put4 f, h.tape.grown hgr (fun e => by injection e with e; exact hg e) (fun k hk => by injection hk with hk; omega), gbB_below h.gb (hb.mono hR)⟩
theorem results_bd1 {fn : Func} {p : Tmp} (h : fn.results = #[.cell p 40]) (tmps : Array Value) (w : World) (g : Nat) (s : BodD)
    (hp : tmps.getD p undef = .pointer (some ⟨g, 0, none⟩)) (hg : BodAt w g s) : (results fn tmps).run Try.prog w = .ok (BV s) w := by
  have hp' : tmps[p]?.getD undef = .pointer (some ⟨g, 0, none⟩) := by simpa using hp
  simp [results, h, hp', asAddr, run_loadVar_row w g 40 40 (BC s) (0, 0) _ hg Try.underlying40 rfl (by kernel_rfl)]
/-- A body that law 16 makes: its cells are below c, or none. -/
def MadeBody (c : Nat) (q : BodD) : Prop := -1 ≤ q.cel ∧ q.cel < c ∧ -1 ≤ q.dst ∧ q.dst < c
def BodyPost (w : World) (B gt T c : Nat) (e : Ending) (w' : World) : Prop := ∃ q : BodD, e = .returned (BV q) ∧ MadeBody c q ∧ TapeOk w' B gt (T + 5) ∧ w.grownBy w' (some gt)
set_option maxRecDepth 100000 in
set_option maxHeartbeats 4000000 in
theorem body_c (B gt T c : Nat) (w : World) (ht : TapeOk w B gt T) (hT : T ≤ 1000000) (hgt : gt < w.heap.size) (hc : 1 ≤ c) (hc2 : c ≤ 1000) :
    Calls Try.prog 11 #[.pointer (some ⟨gt, 0, none⟩), .int .i64 c] w (BodyPost w B gt T c) := by
  have HT := Lib.hid ht
  have hBg : B ≤ gt := by obtain ⟨_, _, _, _, _, _, _, _, h, _⟩ := ht; exact h
  have HW : Hid (Below w.heap.size w (w.alloc (.cells #[.int .i64 0, .int .i64 0, .bool false, .bool false] 40))) := Lib.hid (below_newB w _)
  have HZ : Hid (BodAt (w.alloc (.cells #[.int .i64 0, .int .i64 0, .bool false, .bool false] 40)) w.heap.size zeroB) := Lib.hid (BodAt.new w zeroB)
  have HT1 := Lib.hid (HT.out.keep HW.out)
  have hs1 : w.heap.size < (w.alloc (.cells #[.int .i64 0, .int .i64 0, .bool false, .bool false] 40)).heap.size := by simp
  have HG1 := Lib.hid (gbB_below (gbB_refl w gt) HW.out)
  have hwc : IntKind.i64.wrap ((c : Int) + 1) = (c : Int) + 1 := IntWalk.i64_in _ (by omega)
  clear ht HT
  go_enter Try.func11, Try.ntmps11
  go_wp2_with fail
  generalize (w.alloc (.cells #[.int .i64 0, .int .i64 0, .bool false, .bool false] 40)) = w1 at *
  refine (next_c B gt T ((c : Int) + 1) w1 HT1.out (by omega) (by omega) (by omega)).mono ?_
  rintro e w2 ⟨r0, hr0, rfl, ht2, hg2⟩
  have HT2 := Lib.hid ht2
  have HG2 := Lib.hid (gbB_next HG1.out hg2)
  have HZ2 := Lib.hid (HZ.out.grown hg2 (fun e => by injection e with e; omega))
  have hs2 := Nat.lt_of_lt_of_le hs1 hg2.size
  have hwr : IntKind.i64.wrap ((r0 : Int) - 1) = (r0 : Int) - 1 := IntWalk.i64_in _ (by omega)
  clear ht2 hg2 HT1 HG1 HZ hs1 hwc
  go_wp2_with fail
  refine (next_c B gt _ 4 w2 HT2.out (by omega) (by omega) (by omega)).mono ?_
  rintro e w3 ⟨r1, hr1, rfl, ht3, hg3⟩
  have HT3 := Lib.hid ht3
  have HG3 := Lib.hid (gbB_next HG2.out hg3)
  have HZ3 := Lib.hid (HZ2.out.grown hg3 (fun e => by injection e with e; omega))
  have hs3 := Nat.lt_of_lt_of_le hs2 hg3.size
  clear ht3 hg3 HT2 HG2 HZ2 hs2
  go_wp2_with fail
  refine (next_c B gt _ 5 w3 HT3.out (by omega) (by omega) (by omega)).mono ?_
  rintro e w4 ⟨r2, hr2, rfl, ht4, hg4⟩
  have HT4 := Lib.hid ht4
  have HG4 := Lib.hid (gbB_next HG3.out hg4)
  have HZ4 := Lib.hid (HZ3.out.grown hg4 (fun e => by injection e with e; omega))
  have hs4 := Nat.lt_of_lt_of_le hs3 hg4.size
  clear ht4 hg4 HT3 HG3 HZ3 hs3
  generalize hbs : ((r1 : Int) == 0) = sv
  generalize hbf : ((r2 : Int) == 0) = fv
  go_wp2_with fail
  have HM : Hid (BM w B gt (T + 1 + 1 + 1) w.heap.size w4.heap.size ⟨(r0 : Int) - 1, -1, sv, fv⟩ (w4.alloc (.cells #[.int .i64 ((r0 : Int) - 1), .int .i64 (-1), .bool sv, .bool fv] 40))) := Lib.hid ⟨gbB_below HG4.out ((below_newB w4 _).mono (Nat.le_of_lt hs4)), HT4.out.keep (below_newB w4 _), HZ4.out.keep (below_newB w4 _), BodAt.new w4 ⟨(r0 : Int) - 1, -1, sv, fv⟩⟩
  generalize (w4.alloc (.cells #[.int .i64 ((r0 : Int) - 1), .int .i64 (-1), .bool sv, .bool fv] 40)) = w5 at *
  generalize w4.heap.size = X at *
  clear HT4 HG4 HZ4 hbs hbf
  refine (next_c B gt _ 3 w5 HM.out.tape (by omega) (by omega) (by omega)).mono ?_
  rintro e w6 ⟨r3, hr3, rfl, ht6, hg6⟩
  have HM6 := Lib.hid (HM.out.next ht6 hg6 (by omega) (by omega))
  clear ht6 hg6 HM
  by_cases h3 : r3 = 0
  · subst h3
    go_wp2_with fail
    refine (next_c B gt _ c w6 HM6.out.tape (by omega) (by omega) (by omega)).mono ?_
    rintro e w7 ⟨r4, hr4, rfl, ht7, hg7⟩
    have HM7 := Lib.hid (HM6.out.next ht7 hg7 (by omega) (by omega))
    obtain ⟨k0, k1, k2, k3⟩ := HM7.out.bd.cell
    have fk := HM7.out.bd.frozen
    have HP := Lib.hid (HM7.out.put (i := 1) (v := .int .i64 (r4 : Int)) (q' := ⟨(r0 : Int) - 1, (r4 : Int), sv, fv⟩) (by omega) (by omega) (by omega) (by omega) rfl)
    have HMB : Hid (MadeBody c ⟨(r0 : Int) - 1, (r4 : Int), sv, fv⟩) := Lib.hid ⟨by simp only; omega, by simp only; omega, by simp only; omega, by simp only; omega⟩
    clear ht7 hg7 HM6 HM7
    have HD := Lib.hid (HP.out.done (by omega) (by omega) (by omega))
    obtain ⟨d0, d1, d2, d3⟩ := HP.out.bd.cell
    obtain ⟨z0, z1, z2, z3⟩ := HP.out.zero.cell
    have fz := HP.out.zero.frozen
    clear HP
    go_wp2
    exact bodyPost_ret (results_bd1 rfl _ _ _ ⟨(r0 : Int) - 1, (r4 : Int), sv, fv⟩ rfl HD.out.1) rfl ⟨⟨(r0 : Int) - 1, (r4 : Int), sv, fv⟩, rfl, HMB.out, HD.out.2.1.more (by omega), HD.out.2.2⟩
  · have h30 : ((r3 : Int) == 0) = false := by rw [beq_eq_false_iff_ne]; omega
    have HP := HM6
    have HMB : Hid (MadeBody c ⟨(r0 : Int) - 1, -1, sv, fv⟩) := Lib.hid ⟨by simp only; omega, by simp only; omega, by simp only; omega, by simp only; omega⟩
    clear HM6
    have HD := Lib.hid (HP.out.done (by omega) (by omega) (by omega))
    obtain ⟨d0, d1, d2, d3⟩ := HP.out.bd.cell
    obtain ⟨z0, z1, z2, z3⟩ := HP.out.zero.cell
    have fz := HP.out.zero.frozen
    clear HP
    go_wp2
    exact bodyPost_ret (results_bd1 rfl _ _ _ ⟨(r0 : Int) - 1, -1, sv, fv⟩ rfl HD.out.1) rfl ⟨⟨(r0 : Int) - 1, -1, sv, fv⟩, rfl, HMB.out, HD.out.2.1.more (by omega), HD.out.2.2⟩
end Go.Proofs.Ytjbhmeeebacnpaa
