/- Joined texts. -/
import Derived.Test.YtmdnkpiihhaoeaaMzAY
import Derived.Test.YtmdnkpiihhaoeaaMzAR
import Derived.Test.YtmdnkpiihhaoeaaMzAV
import Derived.BigQuiet
import Derived.Test.YtmdnkpiihhaoeaaMzAF
import Derived.Test.YtmdnkpiihhaoeaaMzAG
import Derived.Test.YtmdnkpiihhaoeaaMzAD
import Derived.Test.YtmdnkpiihhaoeaaMzAB
namespace Go.Proofs.Ytmdnkpiihhaoeaa
open Go Go.RowKit Fl

/-- What the making of an agent and a body has so far: both results, and what a world keeps. -/
structure MZ (w : World) (B gt T : Nat) (wx : World) : Prop where
  gb : w.grownBy wx (some gt)
  tape : TapeOk wx B gt T
  za : AgAt wx w.heap.size ⟨0, 0, false, 0, 0⟩
  zb : BodAt wx (w.heap.size + 1) ⟨0, 0, false, false⟩
section
variable {w wx wy : World} {B gt T : Nat}
theorem MZ.next (h : MZ w B gt T wx) (ht : TapeOk wy B gt (T + 1)) (hg : wx.grownBy wy (some gt)) (hR : gt < w.heap.size) : MZ w B gt (T + 1) wy :=
  ⟨gbB_next h.gb hg, ht, h.za.grown hg (fun e => by injection e with e; omega), BodAt.grown h.zb hg (fun e => by injection e with e; omega)⟩
theorem MZ.more {T' : Nat} (h : MZ w B gt T wx) (hT : T ≤ T') : MZ w B gt T' wx := ⟨h.gb, h.tape.more hT, h.za, h.zb⟩
theorem MZ.keep (h : MZ w B gt T wx) (hb : Below wx.heap.size wx wy) : MZ w B gt T wy := ⟨gbB_below h.gb (hb.mono h.gb.size), h.tape.keep hb, h.za.keep hb, h.zb.keep hb⟩
theorem MZ.put {X i : Nat} {v : Value} (h : MZ w B gt T wx) (hX : w.heap.size + 1 < X) (hB : B ≤ gt) (hR : gt < w.heap.size) : MZ w B gt T (wx.setCell ⟨X, i, none⟩ v) := by
  have hg : wx.grownBy (wx.setCell ⟨X, i, none⟩ v) (some X) := grown_put (Below.refl wx.heap.size wx) (Nat.le_refl _)
  exact ⟨gbB_below h.gb (below_put (Below.refl _ _) (by omega)), h.tape.grown hg (fun e => by injection e with e; omega) (fun k hk => by injection hk with hk; omega), h.za.grown hg (fun e => by injection e with e; omega), BodAt.grown h.zb hg (fun e => by injection e with e; omega)⟩
end
/-- Both results are stored, in either order. -/
theorem MZ.done {w wd : World} {B gt T : Nat} (h : MZ w B gt T wd) (hB : B ≤ gt) (hR : gt < w.heap.size) (Z Y : Nat) (hZ : Z = w.heap.size) (hY : Y = w.heap.size + 1) (a : AgtD) (b : BodD) :
    (AgAt (((((((((wd.setCell ⟨Z, 0, none⟩ (.int .u64 a.las)).setCell ⟨Z, 1, none⟩ (.int .i64 a.dst)).setCell ⟨Z, 2, none⟩ (.bool a.srv)).setCell ⟨Z, 3, none⟩ (.int .i64 a.rpt)).setCell ⟨Z, 4, none⟩ (.int .i64 a.cel)).setCell ⟨Y, 0, none⟩ (.int .i64 b.cel)).setCell ⟨Y, 1, none⟩ (.int .i64 b.dst)).setCell ⟨Y, 2, none⟩ (.bool b.srv)).setCell ⟨Y, 3, none⟩ (.bool b.flt)).drew Z a ∧ BodAt (((((((((wd.setCell ⟨Z, 0, none⟩ (.int .u64 a.las)).setCell ⟨Z, 1, none⟩ (.int .i64 a.dst)).setCell ⟨Z, 2, none⟩ (.bool a.srv)).setCell ⟨Z, 3, none⟩ (.int .i64 a.rpt)).setCell ⟨Z, 4, none⟩ (.int .i64 a.cel)).setCell ⟨Y, 0, none⟩ (.int .i64 b.cel)).setCell ⟨Y, 1, none⟩ (.int .i64 b.dst)).setCell ⟨Y, 2, none⟩ (.bool b.srv)).setCell ⟨Y, 3, none⟩ (.bool b.flt)).drew Y b ∧ TapeOk (((((((((wd.setCell ⟨Z, 0, none⟩ (.int .u64 a.las)).setCell ⟨Z, 1, none⟩ (.int .i64 a.dst)).setCell ⟨Z, 2, none⟩ (.bool a.srv)).setCell ⟨Z, 3, none⟩ (.int .i64 a.rpt)).setCell ⟨Z, 4, none⟩ (.int .i64 a.cel)).setCell ⟨Y, 0, none⟩ (.int .i64 b.cel)).setCell ⟨Y, 1, none⟩ (.int .i64 b.dst)).setCell ⟨Y, 2, none⟩ (.bool b.srv)).setCell ⟨Y, 3, none⟩ (.bool b.flt)).drew B gt T ∧ w.grownBy (((((((((wd.setCell ⟨Z, 0, none⟩ (.int .u64 a.las)).setCell ⟨Z, 1, none⟩ (.int .i64 a.dst)).setCell ⟨Z, 2, none⟩ (.bool a.srv)).setCell ⟨Z, 3, none⟩ (.int .i64 a.rpt)).setCell ⟨Z, 4, none⟩ (.int .i64 a.cel)).setCell ⟨Y, 0, none⟩ (.int .i64 b.cel)).setCell ⟨Y, 1, none⟩ (.int .i64 b.dst)).setCell ⟨Y, 2, none⟩ (.bool b.srv)).setCell ⟨Y, 3, none⟩ (.bool b.flt)).drew (some gt)) ∧ (AgAt (((((((((wd.setCell ⟨Y, 0, none⟩ (.int .i64 b.cel)).setCell ⟨Y, 1, none⟩ (.int .i64 b.dst)).setCell ⟨Y, 2, none⟩ (.bool b.srv)).setCell ⟨Y, 3, none⟩ (.bool b.flt)).setCell ⟨Z, 0, none⟩ (.int .u64 a.las)).setCell ⟨Z, 1, none⟩ (.int .i64 a.dst)).setCell ⟨Z, 2, none⟩ (.bool a.srv)).setCell ⟨Z, 3, none⟩ (.int .i64 a.rpt)).setCell ⟨Z, 4, none⟩ (.int .i64 a.cel)).drew Z a ∧ BodAt (((((((((wd.setCell ⟨Y, 0, none⟩ (.int .i64 b.cel)).setCell ⟨Y, 1, none⟩ (.int .i64 b.dst)).setCell ⟨Y, 2, none⟩ (.bool b.srv)).setCell ⟨Y, 3, none⟩ (.bool b.flt)).setCell ⟨Z, 0, none⟩ (.int .u64 a.las)).setCell ⟨Z, 1, none⟩ (.int .i64 a.dst)).setCell ⟨Z, 2, none⟩ (.bool a.srv)).setCell ⟨Z, 3, none⟩ (.int .i64 a.rpt)).setCell ⟨Z, 4, none⟩ (.int .i64 a.cel)).drew Y b ∧ TapeOk (((((((((wd.setCell ⟨Y, 0, none⟩ (.int .i64 b.cel)).setCell ⟨Y, 1, none⟩ (.int .i64 b.dst)).setCell ⟨Y, 2, none⟩ (.bool b.srv)).setCell ⟨Y, 3, none⟩ (.bool b.flt)).setCell ⟨Z, 0, none⟩ (.int .u64 a.las)).setCell ⟨Z, 1, none⟩ (.int .i64 a.dst)).setCell ⟨Z, 2, none⟩ (.bool a.srv)).setCell ⟨Z, 3, none⟩ (.int .i64 a.rpt)).setCell ⟨Z, 4, none⟩ (.int .i64 a.cel)).drew B gt T ∧ w.grownBy (((((((((wd.setCell ⟨Y, 0, none⟩ (.int .i64 b.cel)).setCell ⟨Y, 1, none⟩ (.int .i64 b.dst)).setCell ⟨Y, 2, none⟩ (.bool b.srv)).setCell ⟨Y, 3, none⟩ (.bool b.flt)).setCell ⟨Z, 0, none⟩ (.int .u64 a.las)).setCell ⟨Z, 1, none⟩ (.int .i64 a.dst)).setCell ⟨Z, 2, none⟩ (.bool a.srv)).setCell ⟨Z, 3, none⟩ (.int .i64 a.rpt)).setCell ⟨Z, 4, none⟩ (.int .i64 a.cel)).drew (some gt)) := by
  subst hZ hY
  have g1 := put5A_grown wd w.heap.size a
  have g2 := put4B_grown (put5A wd w.heap.size a) (w.heap.size + 1) b
  have g3 := put4B_grown wd (w.heap.size + 1) b
  have g4 := put5A_grown (put4B wd (w.heap.size + 1) b) w.heap.size a
  have ne : ∀ k, w.heap.size ≤ k → some k ≠ some gt := fun k hk e => by injection e with e; omega
  have a1 : AgAt (put5A wd w.heap.size a) w.heap.size a := h.za.put5 a
  have b1 : BodAt (put4B (put5A wd w.heap.size a) (w.heap.size + 1) b) (w.heap.size + 1) b := (BodAt.grown h.zb g1 (fun e => by injection e with e; omega)).put4 b
  have b3 : BodAt (put4B wd (w.heap.size + 1) b) (w.heap.size + 1) b := h.zb.put4 b
  have a4 : AgAt (put5A (put4B wd (w.heap.size + 1) b) w.heap.size a) w.heap.size a := (h.za.grown g3 (fun e => by injection e with e; omega)).put5 a
  have t : ∀ {x y : World} {X : Nat}, TapeOk x B gt T → x.grownBy y (some X) → w.heap.size ≤ X → TapeOk y B gt T := fun hx hg hX => hx.grown hg (fun e => by injection e with e; omega) (fun k hk => by injection hk with hk; omega)
  have l1 : Below w.heap.size wd (put4B (put5A wd w.heap.size a) (w.heap.size + 1) b) := put4B_below (put5A_below (Below.refl _ _) (Nat.le_refl _)) (by omega)
  have l2 : Below w.heap.size wd (put5A (put4B wd (w.heap.size + 1) b) w.heap.size a) := put5A_below (put4B_below (Below.refl _ _) (by omega)) (Nat.le_refl _)
  have rd : ∀ W : World, Below W.heap.size W W.drew := fun W => (Below.refl _ _).drew
  exact ⟨⟨(a1.grown g2 (fun e => by injection e with e; omega)).keep (rd _), b1.keep (rd _), (t (t h.tape g1 (Nat.le_refl _)) g2 (by omega)).keep (rd _), gbB_below h.gb l1.drew⟩, a4.keep (rd _), (BodAt.grown b3 g4 (fun e => by injection e with e; omega)).keep (rd _), (t (t h.tape g3 (by omega)) g4 (Nat.le_refl _)).keep (rd _), gbB_below h.gb l2.drew⟩
theorem results_ab {fn : Func} {p q : Tmp} (h : fn.results = #[.cell p 32, .cell q 34]) (tmps : Array Value) (w : World) (g k : Nat) (a : AgtD) (b : BodD)
    (hp : tmps.getD p undef = .pointer (some ⟨g, 0, none⟩)) (hg : AgAt w g a) (hq : tmps.getD q undef = .pointer (some ⟨k, 0, none⟩)) (hk : BodAt w k b) :
    (results fn tmps).run Try.prog w = .ok (.tuple #[AV a, BV b]) w := by
  have hp' : tmps[p]?.getD undef = .pointer (some ⟨g, 0, none⟩) := by simpa using hp
  have hq' : tmps[q]?.getD undef = .pointer (some ⟨k, 0, none⟩) := by simpa using hq
  simp [results, h, hp', hq', asAddr, run_loadVar_row w g 32 32 (AC a) (0, 0) _ hg Try.underlying32 rfl (by kernel_rfl), run_loadVar_row w k 34 34 (BC b) (0, 0) _ hk Try.underlying34 rfl (by kernel_rfl)]
/-- What made returns: an agent, and a body in a cell below c, or in none. -/
def MadePost (w : World) (B gt T c : Nat) (e : Ending) (w' : World) : Prop := ∃ (a : AgtD) (q : BodD), e = .returned (.tuple #[AV a, BV q]) ∧ (-1 ≤ q.cel ∧ q.cel < c) ∧ TapeOk w' B gt (T + 10) ∧ w.grownBy w' (some gt)
theorem BodAt.put1m {w : World} {b : Nat} {bc bd v : Int} {bs bf : Bool} (h : BodAt w b ⟨bc, bd, bs, bf⟩) : BodAt (w.setCell ⟨b, 1, none⟩ (.int .i64 v)) b ⟨bc, v, bs, bf⟩ := by
  unfold BodAt at h ⊢
  simp [World.setCell, Array.getElem?_modify, h]
theorem AgAt.put4m {w : World} {b : Nat} {las dst rpt cel v : Int} {srv : Bool} (h : AgAt w b ⟨las, dst, srv, rpt, cel⟩) : AgAt (w.setCell ⟨b, 4, none⟩ (.int .i64 v)) b ⟨las, dst, srv, rpt, v⟩ := by
  unfold AgAt at h ⊢
  simp [World.setCell, Array.getElem?_modify, h]
set_option maxRecDepth 100000 in
set_option maxHeartbeats 4000000 in
theorem made_c (B gt T c : Nat) (w : World) (ht : TapeOk w B gt T) (hT : T ≤ 1000000) (hgt : gt < w.heap.size) (hc : 1 ≤ c) (hc2 : c ≤ 1000) :
    Calls Try.prog 8 #[.pointer (some ⟨gt, 0, none⟩), .int .i64 c] w (MadePost w B gt T c) := by
  have hBg : B ≤ gt := by obtain ⟨_, _, _, _, _, _, _, _, h, _⟩ := ht; exact h
  have hW : Below w.heap.size w ((w.alloc (.cells #[.int .u64 0, .int .i64 0, .bool false, .int .i64 0, .int .i64 0] 32)).alloc (.cells #[.int .i64 0, .int .i64 0, .bool false, .bool false] 34)) := (below_newB w _).alloc (by simp) _
  have HM : Hid (MZ w B gt T ((w.alloc (.cells #[.int .u64 0, .int .i64 0, .bool false, .int .i64 0, .int .i64 0] 32)).alloc (.cells #[.int .i64 0, .int .i64 0, .bool false, .bool false] 34))) := Lib.hid ⟨gbB_below (gbB_refl w gt) hW, ht.keep hW, (AgAt.new w ⟨0, 0, false, 0, 0⟩).keep (below_newB _ _), by
    have h := BodAt.new (w.alloc (.cells #[.int .u64 0, .int .i64 0, .bool false, .int .i64 0, .int .i64 0] 32)) ⟨0, 0, false, false⟩
    rw [show (w.alloc (.cells #[.int .u64 0, .int .i64 0, .bool false, .int .i64 0, .int .i64 0] 32)).heap.size = w.heap.size + 1 by simp] at h
    exact h⟩
  have hsz : w.heap.size + 1 < ((w.alloc (.cells #[.int .u64 0, .int .i64 0, .bool false, .int .i64 0, .int .i64 0] 32)).alloc (.cells #[.int .i64 0, .int .i64 0, .bool false, .bool false] 34)).heap.size := by simp
  have hwc : IntKind.i64.wrap ((c : Int) + 1) = (c : Int) + 1 := IntWalk.i64_in _ (by omega)
  clear ht hW
  go_enter Try.func8, Try.ntmps8
  go_upto_region 1 with fail
  generalize ((w.alloc (.cells #[.int .u64 0, .int .i64 0, .bool false, .int .i64 0, .int .i64 0] 32)).alloc (.cells #[.int .i64 0, .int .i64 0, .bool false, .bool false] 34)) = w1 at *
  go_wp2_with fail
  refine (next_c B gt _ 4 w1 HM.out.tape (by omega) (by omega) (by omega)).mono ?_
  rintro e w2 ⟨r0, hr0, rfl, ht, hg⟩
  replace HM := Lib.hid (HM.out.next ht hg hgt)
  replace hsz := Nat.le_trans hsz hg.size
  clear ht hg
  have hw0 : IntKind.u64.wrap (r0 : Int) = (r0 : Int) := by rw [IntKind.wrap_u64]; omega
  go_wp2_with fail
  refine (next_c B gt _ ((c : Int) + 1) w2 HM.out.tape (by omega) (by omega) (by omega)).mono ?_
  rintro e w3 ⟨r1, hr1, rfl, ht, hg⟩
  replace HM := Lib.hid (HM.out.next ht hg hgt)
  replace hsz := Nat.le_trans hsz hg.size
  clear ht hg
  have hw1 : IntKind.i64.wrap ((r1 : Int) - 1) = (r1 : Int) - 1 := IntWalk.i64_in _ (by omega)
  go_wp2_with fail
  refine (next_c B gt _ 3 w3 HM.out.tape (by omega) (by omega) (by omega)).mono ?_
  rintro e w4 ⟨r2, hr2, rfl, ht, hg⟩
  replace HM := Lib.hid (HM.out.next ht hg hgt)
  replace hsz := Nat.le_trans hsz hg.size
  clear ht hg
  go_wp2_with fail
  refine (next_c B gt _ 3 w4 HM.out.tape (by omega) (by omega) (by omega)).mono ?_
  rintro e w5 ⟨r3, hr3, rfl, ht, hg⟩
  replace HM := Lib.hid (HM.out.next ht hg hgt)
  replace hsz := Nat.le_trans hsz hg.size
  clear ht hg
  generalize hbv : ((r2 : Int) == 0) = av
  go_upto_region 2 with fail
  clear hbv
  have HX : Hid (AgAt (w5.alloc (.cells (AC ⟨(r0 : Int), (r1 : Int) - 1, av, (r3 : Int), 0⟩) 32)) w5.heap.size ⟨(r0 : Int), (r1 : Int) - 1, av, (r3 : Int), 0⟩) := Lib.hid (AgAt.new w5 _)
  replace HM := Lib.hid (HM.out.keep (below_newB w5 (.cells (AC ⟨(r0 : Int), (r1 : Int) - 1, av, (r3 : Int), 0⟩) 32)))
  have hxw : w.heap.size + 1 < w5.heap.size := by omega
  replace hsz : w5.heap.size < (w5.alloc (.cells (AC ⟨(r0 : Int), (r1 : Int) - 1, av, (r3 : Int), 0⟩) 32)).heap.size := by simp
  generalize w5.alloc (.cells (AC ⟨(r0 : Int), (r1 : Int) - 1, av, (r3 : Int), 0⟩) 32) = w6 at *
  generalize w5.heap.size = X at *
  clear hw0 hw1
  obtain ⟨x0, x1, x2, x3, x4⟩ := HX.out.cell
  by_cases h0 : r3 = 0
  · subst h0
    clear x0 x1 x2 x4
    go_upto_region 4 with fail
    clear x3
    replace HX := Lib.hid (show AgAt w6 X ⟨(r0 : Int), (r1 : Int) - 1, av, 0, 0⟩ from HX.out)
    go_wp2_with fail
    refine (next_c B gt _ ((c : Int) + 1) w6 HM.out.tape (by omega) (by omega) (by omega)).mono ?_
    rintro e wa ⟨s0, hs0, rfl, ht, hg⟩
    replace HM := Lib.hid (HM.out.next ht hg hgt)
    replace hsz := Nat.le_trans hsz hg.size
    replace HX := Lib.hid (HX.out.grown hg (fun e => by injection e with e; omega))
    clear ht hg
    have hws : IntKind.i64.wrap ((s0 : Int) - 1) = (s0 : Int) - 1 := IntWalk.i64_in _ (by omega)
    go_wp2_with fail
    refine (next_c B gt _ 4 wa HM.out.tape (by omega) (by omega) (by omega)).mono ?_
    rintro e wb ⟨s1, hs1, rfl, ht, hg⟩
    replace HM := Lib.hid (HM.out.next ht hg hgt)
    replace hsz := Nat.le_trans hsz hg.size
    replace HX := Lib.hid (HX.out.grown hg (fun e => by injection e with e; omega))
    clear ht hg
    go_wp2_with fail
    refine (next_c B gt _ 6 wb HM.out.tape (by omega) (by omega) (by omega)).mono ?_
    rintro e wc ⟨s2, hs2, rfl, ht, hg⟩
    replace HM := Lib.hid (HM.out.next ht hg hgt)
    replace hsz := Nat.le_trans hsz hg.size
    replace HX := Lib.hid (HX.out.grown hg (fun e => by injection e with e; omega))
    clear ht hg
    generalize hbs : ((s1 : Int) == 0) = sv
    generalize hbf : ((s2 : Int) == 0) = fv
    go_upto_region 5 with fail
    clear hbs hbf
    have HB : Hid (BodAt (wc.alloc (.cells (BC ⟨(s0 : Int) - 1, -1, sv, fv⟩) 34)) wc.heap.size ⟨(s0 : Int) - 1, -1, sv, fv⟩) := Lib.hid (BodAt.new wc _)
    replace HX := Lib.hid (HX.out.keep (below_newB wc (.cells (BC ⟨(s0 : Int) - 1, -1, sv, fv⟩) 34)))
    replace HM := Lib.hid (HM.out.keep (below_newB wc (.cells (BC ⟨(s0 : Int) - 1, -1, sv, fv⟩) 34)))
    have hxl : X < wc.heap.size := by omega
    replace hsz : X < (wc.alloc (.cells (BC ⟨(s0 : Int) - 1, -1, sv, fv⟩) 34)).heap.size := by simp; omega
    generalize wc.alloc (.cells (BC ⟨(s0 : Int) - 1, -1, sv, fv⟩) 34) = wd at *
    generalize wc.heap.size = X2 at *
    clear hws
    go_wp2_with fail
    refine (next_c B gt _ 3 wd HM.out.tape (by omega) (by omega) (by omega)).mono ?_
    rintro e we ⟨s3, hs3, rfl, ht, hg⟩
    replace HM := Lib.hid (HM.out.next ht hg hgt)
    replace hsz := Nat.le_trans hsz hg.size
    replace HX := Lib.hid (HX.out.grown hg (fun e => by injection e with e; omega))
    replace HB := Lib.hid (BodAt.grown HB.out hg (fun e => by injection e with e; omega))
    clear ht hg
    by_cases h3 : s3 = 0
    · subst h3
      go_wp2_with fail
      refine (next_c B gt _ c we HM.out.tape (by omega) (by omega) (by omega)).mono ?_
      rintro e wf ⟨s4, hs4, rfl, ht, hg⟩
      replace HM := Lib.hid (HM.out.next ht hg hgt)
      replace hsz := Nat.le_trans hsz hg.size
      replace HX := Lib.hid (HX.out.grown hg (fun e => by injection e with e; omega))
      replace HB := Lib.hid (BodAt.grown HB.out hg (fun e => by injection e with e; omega))
      clear ht hg
      obtain ⟨y0, y1, y2, y3⟩ := HB.out.cell
      have yf := HB.out.frozen
      go_upto_region 7 with fail
      have hg : wf.grownBy (wf.setCell ⟨X2, 1, none⟩ (.int .i64 (s4 : Int))) (some X2) := grown_put (Below.refl wf.heap.size wf) (Nat.le_refl _)
      have hn := (show BodAt (wf.setCell ⟨X2, 1, none⟩ (.int .i64 (s4 : Int))) X2 ⟨(s0 : Int) - 1, (s4 : Int), sv, fv⟩ from HB.out.put1m)
      replace HB := Lib.hid hn
      replace HX := Lib.hid (HX.out.grown hg (fun e => by injection e with e; omega))
      replace HM := Lib.hid (HM.out.put (X := X2) (i := 1) (v := .int .i64 (s4 : Int)) (by omega) hBg hgt)
      replace hsz := Nat.le_trans hsz hg.size
      generalize wf.setCell ⟨X2, 1, none⟩ (.int .i64 (s4 : Int)) = wg at *
      clear hg hn
      clear y0 y1 y2 y3 yf
      obtain ⟨x0, x1, x2, x3, x4⟩ := HX.out.cell
      obtain ⟨y0, y1, y2, y3⟩ := HB.out.cell
      obtain ⟨z0, z1, z2, z3, z4⟩ := HM.out.za.cell
      obtain ⟨u0, u1, u2, u3⟩ := HM.out.zb.cell
      have zf := HM.out.za.frozen
      have uf := HM.out.zb.frozen
      replace HM := Lib.hid (HM.out.more (T' := T + 10) (by omega))
      have HE := Lib.hid (HM.out.done hBg hgt _ _ rfl rfl ⟨(r0 : Int), (r1 : Int) - 1, av, 0, 0⟩ ⟨(s0 : Int) - 1, (s4 : Int), sv, fv⟩)
      clear HX HB HM
      go_upto_region 7 with fail
      go_region
      all_goals
        go_wp2
        refine bodyPost_ret (results_ab rfl _ _ _ _ ⟨(r0 : Int), (r1 : Int) - 1, av, 0, 0⟩ ⟨(s0 : Int) - 1, (s4 : Int), sv, fv⟩ rfl ?_ rfl ?_) rfl ⟨⟨(r0 : Int), (r1 : Int) - 1, av, 0, 0⟩, ⟨(s0 : Int) - 1, (s4 : Int), sv, fv⟩, rfl, ⟨by simp only; omega, by simp only; omega⟩, ?_, ?_⟩
        · first | with_reducible exact HE.out.1.1 | with_reducible exact HE.out.2.1
        · first | with_reducible exact HE.out.1.2.1 | with_reducible exact HE.out.2.2.1
        · first | with_reducible exact HE.out.1.2.2.1 | with_reducible exact HE.out.2.2.2.1
        · first | with_reducible exact HE.out.1.2.2.2 | with_reducible exact HE.out.2.2.2.2
    · have h30 : ((s3 : Int) == 0) = false := by rw [beq_eq_false_iff_ne]; omega
      obtain ⟨x0, x1, x2, x3, x4⟩ := HX.out.cell
      obtain ⟨y0, y1, y2, y3⟩ := HB.out.cell
      obtain ⟨z0, z1, z2, z3, z4⟩ := HM.out.za.cell
      obtain ⟨u0, u1, u2, u3⟩ := HM.out.zb.cell
      have zf := HM.out.za.frozen
      have uf := HM.out.zb.frozen
      replace HM := Lib.hid (HM.out.more (T' := T + 10) (by omega))
      have HE := Lib.hid (HM.out.done hBg hgt _ _ rfl rfl ⟨(r0 : Int), (r1 : Int) - 1, av, 0, 0⟩ ⟨(s0 : Int) - 1, -1, sv, fv⟩)
      clear HX HB HM
      go_upto_region 7 with fail
      go_region
      all_goals
        go_wp2
        refine bodyPost_ret (results_ab rfl _ _ _ _ ⟨(r0 : Int), (r1 : Int) - 1, av, 0, 0⟩ ⟨(s0 : Int) - 1, -1, sv, fv⟩ rfl ?_ rfl ?_) rfl ⟨⟨(r0 : Int), (r1 : Int) - 1, av, 0, 0⟩, ⟨(s0 : Int) - 1, -1, sv, fv⟩, rfl, ⟨by simp only; omega, by simp only; omega⟩, ?_, ?_⟩
        · first | with_reducible exact HE.out.1.1 | with_reducible exact HE.out.2.1
        · first | with_reducible exact HE.out.1.2.1 | with_reducible exact HE.out.2.2.1
        · first | with_reducible exact HE.out.1.2.2.1 | with_reducible exact HE.out.2.2.2.1
        · first | with_reducible exact HE.out.1.2.2.2 | with_reducible exact HE.out.2.2.2.2
  · have hgo : (0 : Int) < (r3 : Int) := by omega
    go_wp2_with fail
    refine (next_c B gt _ c w6 HM.out.tape (by omega) (by omega) (by omega)).mono ?_
    rintro e w7 ⟨r4, hr4, rfl, ht, hg⟩
    replace HM := Lib.hid (HM.out.next ht hg hgt)
    replace hsz := Nat.le_trans hsz hg.size
    replace HX := Lib.hid (HX.out.grown hg (fun e => by injection e with e; omega))
    clear ht hg
    clear x0 x1 x2 x3 x4
    obtain ⟨x0, x1, x2, x3, x4⟩ := HX.out.cell
    have xf := HX.out.frozen
    go_upto_region 4 with fail
    have hg : w7.grownBy (w7.setCell ⟨X, 4, none⟩ (.int .i64 (r4 : Int))) (some X) := grown_put (Below.refl w7.heap.size w7) (Nat.le_refl _)
    have hn := (show AgAt (w7.setCell ⟨X, 4, none⟩ (.int .i64 (r4 : Int))) X ⟨(r0 : Int), (r1 : Int) - 1, av, (r3 : Int), (r4 : Int)⟩ from HX.out.put4m)
    replace HX := Lib.hid hn
    replace HM := Lib.hid (HM.out.put (X := X) (i := 4) (v := .int .i64 (r4 : Int)) (by omega) hBg hgt)
    replace hsz := Nat.le_trans hsz hg.size
    generalize w7.setCell ⟨X, 4, none⟩ (.int .i64 (r4 : Int)) = w8 at *
    clear hg hn
    clear x0 x1 x2 x3 x4 xf
    go_wp2_with fail
    refine (next_c B gt _ ((c : Int) + 1) w8 HM.out.tape (by omega) (by omega) (by omega)).mono ?_
    rintro e wa ⟨s0, hs0, rfl, ht, hg⟩
    replace HM := Lib.hid (HM.out.next ht hg hgt)
    replace hsz := Nat.le_trans hsz hg.size
    replace HX := Lib.hid (HX.out.grown hg (fun e => by injection e with e; omega))
    clear ht hg
    have hws : IntKind.i64.wrap ((s0 : Int) - 1) = (s0 : Int) - 1 := IntWalk.i64_in _ (by omega)
    go_wp2_with fail
    refine (next_c B gt _ 4 wa HM.out.tape (by omega) (by omega) (by omega)).mono ?_
    rintro e wb ⟨s1, hs1, rfl, ht, hg⟩
    replace HM := Lib.hid (HM.out.next ht hg hgt)
    replace hsz := Nat.le_trans hsz hg.size
    replace HX := Lib.hid (HX.out.grown hg (fun e => by injection e with e; omega))
    clear ht hg
    go_wp2_with fail
    refine (next_c B gt _ 6 wb HM.out.tape (by omega) (by omega) (by omega)).mono ?_
    rintro e wc ⟨s2, hs2, rfl, ht, hg⟩
    replace HM := Lib.hid (HM.out.next ht hg hgt)
    replace hsz := Nat.le_trans hsz hg.size
    replace HX := Lib.hid (HX.out.grown hg (fun e => by injection e with e; omega))
    clear ht hg
    generalize hbs : ((s1 : Int) == 0) = sv
    generalize hbf : ((s2 : Int) == 0) = fv
    go_upto_region 5 with fail
    clear hbs hbf
    have HB : Hid (BodAt (wc.alloc (.cells (BC ⟨(s0 : Int) - 1, -1, sv, fv⟩) 34)) wc.heap.size ⟨(s0 : Int) - 1, -1, sv, fv⟩) := Lib.hid (BodAt.new wc _)
    replace HX := Lib.hid (HX.out.keep (below_newB wc (.cells (BC ⟨(s0 : Int) - 1, -1, sv, fv⟩) 34)))
    replace HM := Lib.hid (HM.out.keep (below_newB wc (.cells (BC ⟨(s0 : Int) - 1, -1, sv, fv⟩) 34)))
    have hxl : X < wc.heap.size := by omega
    replace hsz : X < (wc.alloc (.cells (BC ⟨(s0 : Int) - 1, -1, sv, fv⟩) 34)).heap.size := by simp; omega
    generalize wc.alloc (.cells (BC ⟨(s0 : Int) - 1, -1, sv, fv⟩) 34) = wd at *
    generalize wc.heap.size = X2 at *
    clear hws
    go_wp2_with fail
    refine (next_c B gt _ 3 wd HM.out.tape (by omega) (by omega) (by omega)).mono ?_
    rintro e we ⟨s3, hs3, rfl, ht, hg⟩
    replace HM := Lib.hid (HM.out.next ht hg hgt)
    replace hsz := Nat.le_trans hsz hg.size
    replace HX := Lib.hid (HX.out.grown hg (fun e => by injection e with e; omega))
    replace HB := Lib.hid (BodAt.grown HB.out hg (fun e => by injection e with e; omega))
    clear ht hg
    by_cases h3 : s3 = 0
    · subst h3
      go_wp2_with fail
      refine (next_c B gt _ c we HM.out.tape (by omega) (by omega) (by omega)).mono ?_
      rintro e wf ⟨s4, hs4, rfl, ht, hg⟩
      replace HM := Lib.hid (HM.out.next ht hg hgt)
      replace hsz := Nat.le_trans hsz hg.size
      replace HX := Lib.hid (HX.out.grown hg (fun e => by injection e with e; omega))
      replace HB := Lib.hid (BodAt.grown HB.out hg (fun e => by injection e with e; omega))
      clear ht hg
      obtain ⟨y0, y1, y2, y3⟩ := HB.out.cell
      have yf := HB.out.frozen
      go_upto_region 7 with fail
      have hg : wf.grownBy (wf.setCell ⟨X2, 1, none⟩ (.int .i64 (s4 : Int))) (some X2) := grown_put (Below.refl wf.heap.size wf) (Nat.le_refl _)
      have hn := (show BodAt (wf.setCell ⟨X2, 1, none⟩ (.int .i64 (s4 : Int))) X2 ⟨(s0 : Int) - 1, (s4 : Int), sv, fv⟩ from HB.out.put1m)
      replace HB := Lib.hid hn
      replace HX := Lib.hid (HX.out.grown hg (fun e => by injection e with e; omega))
      replace HM := Lib.hid (HM.out.put (X := X2) (i := 1) (v := .int .i64 (s4 : Int)) (by omega) hBg hgt)
      replace hsz := Nat.le_trans hsz hg.size
      generalize wf.setCell ⟨X2, 1, none⟩ (.int .i64 (s4 : Int)) = wg at *
      clear hg hn
      clear y0 y1 y2 y3 yf
      obtain ⟨x0, x1, x2, x3, x4⟩ := HX.out.cell
      obtain ⟨y0, y1, y2, y3⟩ := HB.out.cell
      obtain ⟨z0, z1, z2, z3, z4⟩ := HM.out.za.cell
      obtain ⟨u0, u1, u2, u3⟩ := HM.out.zb.cell
      have zf := HM.out.za.frozen
      have uf := HM.out.zb.frozen
      replace HM := Lib.hid (HM.out.more (T' := T + 10) (by omega))
      have HE := Lib.hid (HM.out.done hBg hgt _ _ rfl rfl ⟨(r0 : Int), (r1 : Int) - 1, av, (r3 : Int), (r4 : Int)⟩ ⟨(s0 : Int) - 1, (s4 : Int), sv, fv⟩)
      clear HX HB HM
      go_upto_region 7 with fail
      go_region
      all_goals
        go_wp2
        refine bodyPost_ret (results_ab rfl _ _ _ _ ⟨(r0 : Int), (r1 : Int) - 1, av, (r3 : Int), (r4 : Int)⟩ ⟨(s0 : Int) - 1, (s4 : Int), sv, fv⟩ rfl ?_ rfl ?_) rfl ⟨⟨(r0 : Int), (r1 : Int) - 1, av, (r3 : Int), (r4 : Int)⟩, ⟨(s0 : Int) - 1, (s4 : Int), sv, fv⟩, rfl, ⟨by simp only; omega, by simp only; omega⟩, ?_, ?_⟩
        · first | with_reducible exact HE.out.1.1 | with_reducible exact HE.out.2.1
        · first | with_reducible exact HE.out.1.2.1 | with_reducible exact HE.out.2.2.1
        · first | with_reducible exact HE.out.1.2.2.1 | with_reducible exact HE.out.2.2.2.1
        · first | with_reducible exact HE.out.1.2.2.2 | with_reducible exact HE.out.2.2.2.2
    · have h30 : ((s3 : Int) == 0) = false := by rw [beq_eq_false_iff_ne]; omega
      obtain ⟨x0, x1, x2, x3, x4⟩ := HX.out.cell
      obtain ⟨y0, y1, y2, y3⟩ := HB.out.cell
      obtain ⟨z0, z1, z2, z3, z4⟩ := HM.out.za.cell
      obtain ⟨u0, u1, u2, u3⟩ := HM.out.zb.cell
      have zf := HM.out.za.frozen
      have uf := HM.out.zb.frozen
      replace HM := Lib.hid (HM.out.more (T' := T + 10) (by omega))
      have HE := Lib.hid (HM.out.done hBg hgt _ _ rfl rfl ⟨(r0 : Int), (r1 : Int) - 1, av, (r3 : Int), (r4 : Int)⟩ ⟨(s0 : Int) - 1, -1, sv, fv⟩)
      clear HX HB HM
      go_upto_region 7 with fail
      go_region
      all_goals
        go_wp2
        refine bodyPost_ret (results_ab rfl _ _ _ _ ⟨(r0 : Int), (r1 : Int) - 1, av, (r3 : Int), (r4 : Int)⟩ ⟨(s0 : Int) - 1, -1, sv, fv⟩ rfl ?_ rfl ?_) rfl ⟨⟨(r0 : Int), (r1 : Int) - 1, av, (r3 : Int), (r4 : Int)⟩, ⟨(s0 : Int) - 1, -1, sv, fv⟩, rfl, ⟨by simp only; omega, by simp only; omega⟩, ?_, ?_⟩
        · first | with_reducible exact HE.out.1.1 | with_reducible exact HE.out.2.1
        · first | with_reducible exact HE.out.1.2.1 | with_reducible exact HE.out.2.2.1
        · first | with_reducible exact HE.out.1.2.2.1 | with_reducible exact HE.out.2.2.2.1
        · first | with_reducible exact HE.out.1.2.2.2 | with_reducible exact HE.out.2.2.2.2
end Go.Proofs.Ytmdnkpiihhaoeaa
namespace Go.Proofs.Ytmdnkpiihhaoeaa
open Go Go.RowKit Fl

set_option maxRecDepth 100000 in
set_option maxHeartbeats 1000000 in
theorem sameF_c (A1 A2 : Option Addr) (c1 c2 n : Nat) (l : List FrD) (hn : l.length = n) (w : World) (h1 : Holds w A1 (frC l)) (h2 : Holds w A2 (frC l)) (hl : l.length ≤ 1000000000000000000) :
    Calls Try.prog 15 #[.slice A1 n c1, .slice A2 n c2] w fun e w' => e = .returned (.bool true) ∧ ∃ n, w' = w.drewN n := by
  subst hn
  have H1 := Lib.hid (fun k (hk : k < l.length) => holds_frm h1 hk)
  have H2 := Lib.hid (fun k (hk : k < l.length) => holds_frm h2 hk)
  have hne : ((l.length : Int) != (l.length : Int)) = false := by simp
  clear h1 h2
  go_enter Try.func15, Try.ntmps15
  go_wp2
  go_loopw [5] (fun i wr => ∃ k n : Nat, i = .int .i64 k ∧ k ≤ l.length ∧ wr = w.drewN n) (fun i _ => l.length - (intOf i).toNat)
  case atStart => exact ⟨0, 0, rfl, Nat.zero_le _, rfl⟩
  case round =>
    obtain ⟨k, n, rfl, hk, rfl⟩ := hrel
    by_cases hlt : k < l.length
    · obtain ⟨b1, o1, rfl, _, e0, e1, e2, e3, e4⟩ := H1.out k hlt
      obtain ⟨b2, o2, rfl, _, f0, f1, f2, f3, f4⟩ := H2.out k hlt
      have hef := fun W => eq_frame l[k] l[k] W
      simp only [decide_true] at hef
      have hgd := guard_frame
      generalize l[k] = m at *
      obtain ⟨x, y, z, u, v⟩ := m
      dsimp only at e0 e1 e2 e3 e4 f0 f1 f2 f3 f4
      clear H1 H2
      go_wp2
      go_quiet (fail)
      go_wp2
      go_roundw
      case rel => exact ⟨k + 1, _, by go_num, by omega, rfl⟩
      case measure => simp [intOf]; omega
    · clear H1 H2
      go_wp2
      go_ret
      exact ⟨rfl, n, rfl⟩
end Go.Proofs.Ytmdnkpiihhaoeaa
namespace Go.Proofs.Ytmdnkpiihhaoeaa
open Go Go.RowKit Fl

/-- A part of a row. -/
theorem Holds.part {w : World} {b o : Nat} {xs : List Value} (h : Holds w (some ⟨b, o, none⟩) xs) (i n : Nat) (hn : i + n ≤ xs.length) : Holds w (some ⟨b, o + i, none⟩) ((xs.drop i).take n) := by
  rcases h with h | ⟨b', o', hA, hb, hc⟩
  · left; subst h; simp
  · injection hA with hA
    injection hA with e1 e2
    subst e1 e2
    right
    refine ⟨b, o + i, rfl, hb, fun j hj => ?_⟩
    rw [List.length_take, List.length_drop] at hj
    rw [Nat.add_assoc, hc (i + j) (by omega), List.getElem_take, List.getElem_drop]
theorem openS_part {s : List Bool} {x : SpurD} {b n : Nat} (hb : x.base = (b : Int)) (hn : x.slots = (n : Int)) (h : b + n ≤ s.length) : ((List.range x.slots.toNat).any (fun j => atB s (x.base.toNat + j))) = decide (true ∈ (s.drop b).take n) := by
  rw [hb, hn, Int.toNat_natCast, Int.toNat_natCast, Bool.eq_iff_iff, List.any_eq_true, decide_eq_true_iff]
  constructor
  · rintro ⟨j, hj, h1⟩
    have hj' := List.mem_range.1 hj
    rw [atB_get (by omega)] at h1
    refine List.mem_iff_getElem.2 ⟨j, by rw [List.length_take, List.length_drop]; omega, ?_⟩
    rw [List.getElem_take, List.getElem_drop]
    exact h1
  · intro h1
    obtain ⟨j, hj, e⟩ := List.mem_iff_getElem.1 h1
    rw [List.length_take, List.length_drop] at hj
    rw [List.getElem_take, List.getElem_drop] at e
    exact ⟨j, List.mem_range.2 (by omega), by rw [atB_get (by omega)]; exact e⟩
end Go.Proofs.Ytmdnkpiihhaoeaa
namespace Go.Proofs.Ytmdnkpiihhaoeaa
open Go Go.RowKit Fl

theorem flag (P : Prop) : ∃ z : Bool, z = true ↔ P := by
  by_cases h : P
  · exact ⟨true, ⟨fun _ => h, fun _ => rfl⟩⟩
  · exact ⟨false, ⟨fun h' => absurd h' Bool.false_ne_true, fun h' => absurd h' h⟩⟩
theorem betw_z (n lo hi : Int) (z : Bool) (w : World) (hz : z = true ↔ lo ≤ n ∧ n ≤ hi) : Calls Try.prog 89 #[.int .i64 n, .int .i64 lo, .int .i64 hi] w fun e w' => e = .returned (.bool z) ∧ w = w' := by
  rcases z with _ | _
  · exact between_f n lo hi w (fun h => Bool.false_ne_true (hz.2 h))
  · exact between_t n lo hi w (hz.1 rfl).1 (hz.1 rfl).2
set_option maxHeartbeats 2000000 in
theorem devConfigX_c (q a d p : Int) (w : World) :
    Calls Try.prog 84 #[.agg #[Iv q, Iv a, Iv d, Iv p]] w (Exact (ConfOk q a d p) w) := by
  obtain ⟨z1, hz1⟩ := flag (1 ≤ q ∧ q ≤ 8)
  obtain ⟨z2, hz2⟩ := flag (0 ≤ a ∧ a ≤ 4)
  obtain ⟨z3, hz3⟩ := flag (0 ≤ d ∧ d ≤ 3)
  obtain ⟨z4, hz4⟩ := flag (1 ≤ p ∧ p ≤ 16)
  have C1 := Lib.hid (fun W => betw_z q 1 8 z1 W hz1)
  have C2 := Lib.hid (fun W => betw_z a 0 4 z2 W hz2)
  have C3 := Lib.hid (fun W => betw_z d 0 3 z3 W hz3)
  have C4 := Lib.hid (fun W => betw_z p 1 16 z4 W hz4)
  have HZ1 := Lib.hid hz1
  have HZ2 := Lib.hid hz2
  have HZ3 := Lib.hid hz3
  have HZ4 := Lib.hid hz4
  have hB0 := Lib.hid ((Below.refl w.heap.size w).alloc (Nat.le_refl _) (.cells #[Iv q, Iv a, Iv d, Iv p] 27))
  clear hz1 hz2 hz3 hz4
  go_enter Try.func84, Try.ntmps84
  go_wp2_with fail
  refine (C1.out _).mono ?_
  rintro e w1 ⟨rfl, rfl⟩
  rcases z1 with _ | _
  · have HB : Hid (¬ ConfOk q a d p) := Lib.hid (fun h => Bool.false_ne_true (HZ1.out.2 h.queue))
    go_wp2
    go_ret
    exact .no HB.out hB0.out
  go_wp2_with fail
  refine (C2.out _).mono ?_
  rintro e w1 ⟨rfl, rfl⟩
  rcases z2 with _ | _
  · have HB : Hid (¬ ConfOk q a d p) := Lib.hid (fun h => Bool.false_ne_true (HZ2.out.2 h.aging))
    go_wp2
    go_ret
    exact .no HB.out hB0.out
  go_wp2_with fail
  refine (C3.out _).mono ?_
  rintro e w1 ⟨rfl, rfl⟩
  rcases z3 with _ | _
  · have HB : Hid (¬ ConfOk q a d p) := Lib.hid (fun h => Bool.false_ne_true (HZ3.out.2 h.detours))
    go_wp2
    go_ret
    exact .no HB.out hB0.out
  go_wp2_with fail
  refine (C4.out _).mono ?_
  rintro e w1 ⟨rfl, rfl⟩
  rcases z4 with _ | _
  · have HB : Hid (¬ ConfOk q a d p) := Lib.hid (fun h => Bool.false_ne_true (HZ4.out.2 h.patience))
    go_wp2
    go_ret
    exact .no HB.out hB0.out
  have HG : Hid (ConfOk q a d p) := Lib.hid ⟨HZ1.out.1 (by first | rfl | trivial), HZ2.out.1 (by first | rfl | trivial), HZ3.out.1 (by first | rfl | trivial), HZ4.out.1 (by first | rfl | trivial)⟩
  go_wp2
  go_ret
  exact .yes HG.out hB0.out
set_option maxRecDepth 100000 in
set_option maxHeartbeats 4000000 in
theorem nextX_c (A : Option Addr) (c k n : Nat) (r : List Int) (z : Bool) (w : World) (hh : Holds w A (r.map Iv)) (hl : r.length ≤ 1000000000000000000) (hz : z = true ↔ RowFit n k r) :
    Calls Try.prog 91 #[.slice A r.length c, .int .i64 k, .int .i64 n] w fun e w' => e = .returned (.bool z) ∧ w = w' := by
  have HH := Lib.hid hh
  have HZ := Lib.hid hz
  clear hh hz
  by_cases h4 : r.length ≤ 4
  rotate_left
  · have HB : Hid (z = false) := Lib.hid (by
      rcases z with _ | _
      · rfl
      · exact absurd (HZ.out.1 rfl).few h4)
    have h4i : (4 : Int) < (r.length : Int) := by omega
    go_enter Try.func91, Try.ntmps91
    go_wp2
    go_ret
    exact ⟨gr_bool HB.out.symm, rfl⟩
  have HBad : Hid (∀ (j : Nat) (h : j < r.length), ¬ ((0 ≤ r[j] ∧ r[j] < (n : Int) ∧ r[j] ≠ (k : Int)) ∧ ∀ (h0 : 0 < j), r[j - 1]'(by omega) < r[j]) → z = false) := Lib.hid (fun j h hno => by
    rcases z with _ | _
    · rfl
    · exact absurd ((HZ.out.1 rfl).step h) hno)
  go_enter Try.func91, Try.ntmps91
  go_wp2
  go_loop [7, 15] (fun l i => ∃ (j : Nat) (y : Int), i = .int .i64 j ∧ l = .int .i64 y ∧ j ≤ r.length ∧ Hid (PreRow n k r j) ∧ Hid ((j = 0 ∧ y = -1) ∨ 0 < j ∧ r[j - 1]? = some y)) (fun _ i => r.length - (intOf i).toNat)
  case atStart => exact ⟨0, -1, rfl, rfl, Nat.zero_le _, Lib.hid (PreRow.zero _ _ _), Lib.hid (.inl ⟨rfl, rfl⟩)⟩
  case round =>
    obtain ⟨j, y, rfl, rfl, hj, HP, HY⟩ := hrel
    by_cases hlt : j < r.length
    · obtain ⟨b, o, rfl, e1⟩ := HH.out.iv hlt
      have hst : (y < r[j] ∧ r[j] < (n : Int) ∧ r[j] ≠ (k : Int)) ↔ ((0 ≤ r[j] ∧ r[j] < (n : Int) ∧ r[j] ≠ (k : Int)) ∧ ∀ (h0 : 0 < j), r[j - 1]'(by omega) < r[j]) := by
        rcases HY.out with ⟨rfl, rfl⟩ | ⟨h0, he⟩
        · exact ⟨fun ⟨a, b, c⟩ => ⟨⟨by omega, b, c⟩, fun h0 => absurd h0 (by omega)⟩, fun ⟨⟨a, b, c⟩, _⟩ => ⟨by omega, b, c⟩⟩
        · obtain ⟨h, rfl⟩ := List.getElem?_eq_some_iff.1 he
          have h1 := (HP.out.1 (j - 1) h (by omega)).1
          exact ⟨fun ⟨a, b, c⟩ => ⟨⟨by omega, b, c⟩, fun _ => a⟩, fun ⟨⟨a, b, c⟩, d⟩ => ⟨d h0, b, c⟩⟩
      by_cases hok : y < r[j] ∧ r[j] < (n : Int) ∧ r[j] ≠ (k : Int)
      · have HP2 := Lib.hid (HP.out.step hlt (hst.1 hok).1 (hst.1 hok).2)
        have HY2 : Hid (∀ x, x = r[j] → (j + 1 = 0 ∧ x = -1) ∨ 0 < j + 1 ∧ r[j + 1 - 1]? = some x) := Lib.hid (fun x hx => .inr ⟨by omega, by simp [hx, hlt]⟩)
        obtain ⟨p1, p2, p3⟩ := hok
        clear HY HP hst
        generalize r[j] = x at *
        have q1 : ¬ x ≤ y := by omega
        have q2 : ¬ (n : Int) ≤ x := by omega
        have q3 : (x == (k : Int)) = false := by simpa using p3
        clear p3
        go_wp2
        go_round
        case rel => exact ⟨j + 1, x, by go_num, rfl, by omega, HP2, Lib.hid (HY2.out _ rfl)⟩
        case measure => simp [intOf]; omega
      · have HB := Lib.hid (HBad.out j hlt (fun h => hok (hst.2 h)))
        have hcs : r[j] ≤ y ∨ (¬ r[j] ≤ y ∧ (n : Int) ≤ r[j]) ∨ (¬ r[j] ≤ y ∧ ¬ (n : Int) ≤ r[j] ∧ (r[j] == (k : Int)) = true) := by
          rw [beq_iff_eq]
          omega
        clear HY HP hst hok HBad HZ
        generalize r[j] = x at *
        rcases hcs with q | ⟨q1, q⟩ | ⟨q1, q2, q⟩
        all_goals
          go_wp2
          go_ret
          exact ⟨gr_bool HB.out.symm, rfl⟩
    · obtain rfl : j = r.length := by omega
      have HG := Lib.hid (HZ.out.2 (HP.out.all h4))
      go_wp2
      go_ret
      exact ⟨gr_bool HG.out.symm, rfl⟩
theorem depotTestX_c (s : SpurD) (w : World) : Calls Try.prog 99 #[.agg #[Sv s.name, Bo s.depot, Iv s.inn, Iv s.out, Iv s.slots, Iv s.base]] w fun e w' => e = .returned (.bool s.depot) ∧ Below w.heap.size w w' := by
  obtain ⟨nm, dp, si, so, sw, sb⟩ := s
  simp only
  have hB0 := Lib.hid ((Below.refl w.heap.size w).alloc (Nat.le_refl _) (.cells #[Sv nm, Bo dp, Iv si, Iv so, Iv sw, Iv sb] 66))
  go_enter Try.func99, Try.ntmps99
  go_wp2
  go_ret
  exact ⟨rfl, hB0.out⟩
set_option maxRecDepth 100000 in
set_option maxHeartbeats 4000000 in
theorem idxSpurX_c (A : Option Addr) (c : Nat) (l : List SpurD) (w : World) (hl : Holds w A (spurCells l)) (h6 : l.length ≤ 1000) :
    Calls Try.prog 100 #[.slice A l.length c, .func (.func 99) #[] #[]] w fun e w' => (∃ k : Int, e = .returned (.int .i64 k) ∧ (0 ≤ k ↔ ∃ s ∈ l, s.depot = true)) ∧ Below w.heap.size w w' := by
  have HL := Lib.hid hl
  have HC := Lib.hid (fun s W => depotTestX_c s W)
  clear hl
  go_enter Try.func100, Try.ntmps100
  go_wp2
  go_loopw [8] (fun iv wr => ∃ (i : Nat), iv = .int .i64 i ∧ i ≤ l.length ∧ Hid (∀ j (h : j < l.length), j < i → l[j].depot = false) ∧ Hid (Below w.heap.size w wr)) (fun iv _ => l.length - (intOf iv).toNat)
  case atStart => exact ⟨0, rfl, Nat.zero_le _, Lib.hid (fun j _ h => by omega), Lib.hid (Below.refl _ _)⟩
  case round =>
    obtain ⟨i, rfl, hij, HP, HB⟩ := hrel
    by_cases hir : i < l.length
    · obtain ⟨b, o, rfl, hbl, hs⟩ := HL.out.spur hir
      obtain ⟨c0, c1, c2, c3, c4, c5⟩ := hs.keep hbl HB.out
      have CN := Lib.hid (HC.out l[i] wr)
      have HP2 : Hid (l[i].depot = false → ∀ j (h : j < l.length), j < i + 1 → l[j].depot = false) := Lib.hid (fun h j hj h2 => by
        rcases Nat.lt_succ_iff_lt_or_eq.1 h2 with h3 | rfl
        · exact HP.out j hj h3
        · exact h)
      have HEx : Hid (l[i].depot = true → ∃ s ∈ l, s.depot = true) := Lib.hid (fun h => ⟨_, List.getElem_mem hir, h⟩)
      have HBz : Hid (∀ W, Below wr.heap.size wr W → Below w.heap.size w W) := Lib.hid (fun W hW => HB.out.trans (hW.mono HB.out.size))
      clear hs HP HB
      generalize l[i] = s at *
      obtain ⟨nm, dp, si, so, sw, sb⟩ := s
      simp only at c0 c1 c2 c3 c4 c5 CN HP2 HEx
      rcases dp with _ | _
      · go_wp2_with (go_at_call 99; refine CN.out.mono ?_; rintro e w2 ⟨rfl, hb2⟩)
        have HB2 := Lib.hid (HBz.out _ hb2)
        go_roundw
        case rel => exact ⟨i + 1, by go_num, by omega, Lib.hid (HP2.out (by first | rfl | trivial)), HB2⟩
        case measure => simp [intOf]; omega
      · go_wp2_with (go_at_call 99; refine CN.out.mono ?_; rintro e w2 ⟨rfl, hb2⟩)
        have HB2 := Lib.hid (HBz.out _ hb2)
        go_ret
        exact ⟨⟨_, rfl, fun _ => HEx.out (by first | rfl | trivial), fun _ => by omega⟩, HB2.out⟩
    · have HNo : Hid (¬ ∃ s ∈ l, s.depot = true) := Lib.hid (fun ⟨s, hs, hd⟩ => by
        obtain ⟨j, hj, rfl⟩ := List.mem_iff_getElem.1 hs
        rw [HP.out j hj (by omega)] at hd
        cases hd)
      go_wp2
      go_ret
      exact ⟨⟨_, rfl, fun h => by omega, fun h => absurd h HNo.out⟩, HB.out⟩
set_option maxHeartbeats 2000000 in
theorem hasDepotX_c (A : Option Addr) (c : Nat) (l : List SpurD) (w : World) (hl : Holds w A (spurCells l)) (h6 : l.length ≤ 1000) :
    Calls Try.prog 92 #[.slice A l.length c] w (Exact (∃ s ∈ l, s.depot = true) w) := by
  have CI := Lib.hid (idxSpurX_c A c l w hl h6)
  have CC : Hid (Calls Try.prog 98 #[.slice A l.length c, .func (.func 99) #[] #[]] w (Exact (∃ s ∈ l, s.depot = true) w)) := Lib.hid (by
    go_enter Try.func98, Try.ntmps98
    go_wp2_with fail
    refine CI.out.mono ?_
    rintro e w1 ⟨⟨k, rfl, hk⟩, hb1⟩
    have HB := Lib.hid hb1
    have HK := Lib.hid hk
    clear hb1 hk
    go_wp2
    go_ret
    exact .is (b := decide (0 ≤ k)) (by rw [decide_eq_true_iff]; exact HK.out) HB.out)
  clear hl CI
  go_enter Try.func92, Try.ntmps92
  go_wp2_with fail
  refine CC.out.mono ?_
  intro e w1 hE
  obtain ⟨⟨hy, rfl⟩ | ⟨hy, rfl⟩, hb1⟩ := hE.use
  · have HB := Lib.hid hb1
    have HY := Lib.hid hy
    clear hb1 hy
    go_wp2
    go_ret
    exact .yes HY.out HB.out
  · have HB := Lib.hid hb1
    have HY := Lib.hid hy
    clear hb1 hy
    go_wp2
    go_ret
    exact .no HY.out HB.out
end Go.Proofs.Ytmdnkpiihhaoeaa
