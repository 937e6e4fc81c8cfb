/- Contract of the statements' Frame: it makes a valid frame. -/
import Derived.Test.YtckknakpmaagnaaFrDec
import Derived.Test.YtckknakpmaagnaaTpArg
namespace Go.Proofs.Ytckknakpmaagnaa
open Go Go.RowKit Fl

theorem gb_next {w a b : World} {g : Nat} (h : w.grownBy a (some g)) (k : a.grownBy b (some g)) : w.grownBy b (some g) :=
  ⟨k.os.trans h.os, k.tape.trans h.tape, k.output.trans h.output, Nat.le_trans h.size k.size, fun i hi hn => (k.block i (Nat.lt_of_lt_of_le hi h.size) hn).trans (h.block i hi hn)⟩
theorem gb_below {w a b : World} {g : Nat} (h : w.grownBy a (some g)) (k : Below w.heap.size a b) : w.grownBy b (some g) :=
  ⟨k.os.trans h.os, k.tape.trans h.tape, k.output.trans h.output, Nat.le_trans h.size k.size, fun i hi hn => (k.block i hi).trans (h.block i hi hn)⟩
theorem gb_refl (w : World) (g : Nat) : w.grownBy w (some g) := ⟨rfl, rfl, rfl, Nat.le_refl _, fun _ _ _ => rfl⟩
def FramePost (w : World) (B gt T : Nat) (e : Ending) (w' : World) : Prop := ∃ f : FrD, e = .returned (FV f) ∧ errF f = 0 ∧ U64 f.seq ∧ TapeOk w' B gt (T + 8) ∧ w.grownBy w' (some gt)
/-- What is there once the frame has been begun. -/
structure FM (w : World) (B gt T R X : Nat) (f : FrD) (wx : World) : Prop where
  gb : w.grownBy wx (some gt)
  tape : TapeOk wx B gt T
  zero : FrAt wx R zeroF
  fr : FrAt wx X f
theorem FM.next {w wx wy : World} {B gt T R X : Nat} {f : FrD} (h : FM w B gt T R X f wx) (ht : TapeOk wy B gt (T + 1)) (hg : wx.grownBy wy (some gt)) (hR : R ≠ gt) (hX : X ≠ gt) : FM w B gt (T + 1) R X f wy :=
  ⟨gb_next h.gb hg, ht, h.zero.grown hg (fun e => by injection e with e; exact hR e.symm), h.fr.grown hg (fun e => by injection e with e; exact hX e.symm)⟩
theorem FM.put {w wx : World} {B gt T R X i : Nat} {f f' : FrD} {v : Value} (h : FM w B gt T R X f wx) (hR : R ≠ X) (hX : X ≠ gt) (hw : w.heap.size ≤ X) (hB : B ≤ X) (hf : (FC f).setIfInBounds i v = FC f') : FM w B gt T R X f' (wx.setCell ⟨X, i, none⟩ v) := by
  have hg : wx.grownBy (wx.setCell ⟨X, i, none⟩ v) (some X) := ⟨rfl, rfl, rfl, by simp [World.setCell], fun k _ hne => Below.heap_setCell wx ⟨X, i, none⟩ v k (fun e => hne (by rw [e]))⟩
  refine ⟨gb_below h.gb ((Below.refl _ _).setCell (by simpa using hw) _), h.tape.grown hg (fun e => by injection e with e; exact hX e) (fun k hk => by injection hk with hk; omega), h.zero.grown hg (fun e => by injection e with e; exact hR e.symm), ?_⟩
  have := h.fr
  unfold FrAt at this ⊢
  rw [← hf]
  simp [World.setCell, Array.getElem?_modify, this]
def put5W (w : World) (b : Nat) (f : FrD) : World := ((((w.setCell ⟨b, 0, none⟩ (.int .i64 f.kind)).setCell ⟨b, 1, none⟩ (.int .i64 f.robot)).setCell ⟨b, 2, none⟩ (.int .u64 f.seq)).setCell ⟨b, 3, none⟩ (.int .i64 f.cell)).setCell ⟨b, 4, none⟩ (.int .i64 f.flag)
theorem FM.done {w wx : World} {B gt T R X : Nat} {f : FrD} (h : FM w B gt T R X f wx) (hR : w.heap.size ≤ R) (hB : B ≤ R) (hg : R ≠ gt) : FrAt (put5W wx R f) R f ∧ TapeOk (put5W wx R f) B gt T ∧ w.grownBy (put5W wx R f) (some gt) := by
  have hb : Below R wx (put5W wx R f) := below_put (below_put (below_put (below_put (below_put (Below.refl _ _) (Nat.le_refl _)) (Nat.le_refl _)) (Nat.le_refl _)) (Nat.le_refl _)) (Nat.le_refl _)
  have hgr : wx.grownBy (put5W wx R f) (some R) := by
    have h1 : ∀ (a : World) (i : Nat) (v : Value), a.grownBy (a.setCell ⟨R, i, none⟩ v) (some R) := fun a i v => ⟨rfl, rfl, rfl, by simp [World.setCell], fun k _ hne => Below.heap_setCell a ⟨R, i, none⟩ v k (fun e => hne (by rw [e]))⟩
    exact gb_next (gb_next (gb_next (gb_next (h1 _ _ _) (h1 _ _ _)) (h1 _ _ _)) (h1 _ _ _)) (h1 _ _ _)
  exact ⟨h.zero.put5 f, h.tape.grown hgr (fun e => by injection e with e; exact hg e) (fun k hk => by injection hk with hk; omega), gb_below h.gb (hb.mono hR)⟩
set_option maxRecDepth 100000 in
set_option maxHeartbeats 4000000 in
theorem frame_c (B gt T : Nat) (w : World) (ht : TapeOk w B gt T) (hT : T ≤ 1000000) (hgt : gt < w.heap.size) :
    Calls Try.prog 9 #[.pointer (some ⟨gt, 0, none⟩)] w (FramePost w B gt T) := by
  have HT := Lib.hid ht
  have hBg : B ≤ gt := by obtain ⟨_, _, _, _, _, _, _, _, h, _⟩ := ht; exact h
  have HW : Hid (Below w.heap.size w (w.alloc (.cells #[.int .i64 0, .int .i64 0, .int .u64 0, .int .i64 0, .int .i64 0] 25))) := Lib.hid (below_newF w _)
  have HZ : Hid (FrAt (w.alloc (.cells #[.int .i64 0, .int .i64 0, .int .u64 0, .int .i64 0, .int .i64 0] 25)) w.heap.size zeroF) := Lib.hid (FrAt.new w zeroF)
  have HT1 := Lib.hid (HT.out.keep HW.out)
  have hs1 : w.heap.size < (w.alloc (.cells #[.int .i64 0, .int .i64 0, .int .u64 0, .int .i64 0, .int .i64 0] 25)).heap.size := by simp
  have HG1 := Lib.hid (gb_below (gb_refl w gt) HW.out)
  clear ht HT
  go_enter Try.func9, Try.ntmps9
  go_wp2_with fail
  generalize (w.alloc (.cells #[.int .i64 0, .int .i64 0, .int .u64 0, .int .i64 0, .int .i64 0] 25)) = w1 at *
  refine (next_c B gt T 3 w1 HT1.out (by omega) (by omega) (by omega)).mono ?_
  rintro e w2 ⟨r0, hr0, rfl, ht2, hg2⟩
  have HT2 := Lib.hid ht2
  have HG2 := Lib.hid (gb_next HG1.out hg2)
  have HZ2 := Lib.hid (HZ.out.grown hg2 (fun e => by injection e with e; omega))
  have hs2 := Nat.lt_of_lt_of_le hs1 hg2.size
  clear ht2 hg2 HT1 HG1 HZ hs1
  go_wp2_with fail
  refine (next_c B gt _ 8 w2 HT2.out (by omega) (by omega) (by omega)).mono ?_
  rintro e w3 ⟨r1, hr1, rfl, ht3, hg3⟩
  have HT3 := Lib.hid ht3
  have HG3 := Lib.hid (gb_next HG2.out hg3)
  have HZ3 := Lib.hid (HZ2.out.grown hg3 (fun e => by injection e with e; omega))
  have hs3 := Nat.lt_of_lt_of_le hs2 hg3.size
  clear ht3 hg3 HT2 HG2 HZ2 hs2
  go_wp2_with fail
  refine (next_c B gt _ 5 w3 HT3.out (by omega) (by omega) (by omega)).mono ?_
  rintro e w4 ⟨r2, hr2, rfl, ht4, hg4⟩
  have HT4 := Lib.hid ht4
  have HG4 := Lib.hid (gb_next HG3.out hg4)
  have HZ4 := Lib.hid (HZ3.out.grown hg4 (fun e => by injection e with e; omega))
  have hs4 := Nat.lt_of_lt_of_le hs3 hg4.size
  clear ht4 hg4 HT3 HG3 HZ3 hs3
  have hwr := wraps_u64 (1 + (r2 : Int)) (by omega) (by omega)
  go_wp2_with fail
  refine (next_c B gt _ 48 w4 HT4.out (by omega) (by omega) (by omega)).mono ?_
  rintro e w5 ⟨r3, hr3, rfl, ht5, hg5⟩
  have HT5 := Lib.hid ht5
  have HG5 := Lib.hid (gb_next HG4.out hg5)
  have HZ5 := Lib.hid (HZ4.out.grown hg5 (fun e => by injection e with e; omega))
  have hs5 := Nat.lt_of_lt_of_le hs4 hg5.size
  clear ht5 hg5 HT4 HG4 HZ4 hs4
  go_wp2_with fail
  have HM : Hid (FM w B gt (T + 1 + 1 + 1 + 1) w.heap.size w5.heap.size ⟨1 + r0, r1, 1 + r2, r3, 0⟩ (w5.alloc (.cells #[.int .i64 (1 + (r0 : Int)), .int .i64 r1, .int .u64 (1 + (r2 : Int)), .int .i64 r3, .int .i64 0] 25))) :=
    Lib.hid ⟨gb_below HG5.out ((below_newF w5 _).mono (Nat.le_of_lt hs5)), HT5.out.keep (below_newF w5 _), HZ5.out.keep (below_newF w5 _), FrAt.new w5 ⟨1 + r0, r1, 1 + r2, r3, 0⟩⟩
  generalize w5.alloc (.cells #[.int .i64 (1 + (r0 : Int)), .int .i64 r1, .int .u64 (1 + (r2 : Int)), .int .i64 r3, .int .i64 0] 25) = w6 at *
  generalize w5.heap.size = X at *
  clear HT5 HG5 HZ5 hwr
  refine (next_c B gt _ 8 w6 HM.out.tape (by omega) (by omega) (by omega)).mono ?_
  rintro e w7 ⟨r4, hr4, rfl, ht7, hg7⟩
  have HM7 := Lib.hid (HM.out.next ht7 hg7 (by omega) (by omega))
  clear HM ht7 hg7 w6
  go_upto_if 18 with (fail)
  go_cut [] (fun wx => ∃ s : Int, Hid (U64 s) ∧ 1 ≤ s ∧ Hid (FM w B gt (T + 6) w.heap.size X ⟨1 + r0, r1, s, r3, 0⟩ wx))
  case first =>
    by_cases h4 : r4 = 0
    · subst h4
      go_wp2_with fail
      refine (next_c B gt _ 3 w7 HM7.out.tape (by omega) (by omega) (by omega)).mono ?_
      rintro e w8 ⟨r5, hr5, rfl, ht8, hg8⟩
      have HM8 := Lib.hid (HM7.out.next ht8 hg8 (by omega) (by omega))
      obtain ⟨_, _, c2, _, _⟩ := HM8.out.fr.cell
      obtain ⟨_, _, f2, _, _⟩ := HM8.out.fr.frozen
      have hwa := wraps_u64 (r5 : Int) (by omega) (by omega)
      have hwb := wraps_u64 (18446744073709551615 - (r5 : Int)) (by omega) (by omega)
      have HU : Hid (U64 (18446744073709551615 - (r5 : Int)) ∧ 1 ≤ 18446744073709551615 - (r5 : Int)) := Lib.hid ⟨⟨by omega, by omega⟩, by omega⟩
      have HP := Lib.hid (HM8.out.put (i := 2) (v := .int .u64 (18446744073709551615 - (r5 : Int))) (f' := ⟨1 + r0, r1, 18446744073709551615 - (r5 : Int), r3, 0⟩) (by omega) (by omega) (by omega) (by omega) rfl)
      clear HM7 HM8 ht8 hg8
      go_wp2
      go_meet
      case rel => exact ⟨_, Lib.hid HU.out.1, HU.out.2, Lib.hid HP.out⟩
    · have h40 : ((r4 : Int) == 0) = false := by rw [beq_eq_false_iff_ne]; omega
      go_wp2
      go_meet
      case rel => exact ⟨1 + r2, Lib.hid ⟨by omega, by omega⟩, by omega, Lib.hid ⟨HM7.out.gb, HM7.out.tape.more (by omega), HM7.out.zero, HM7.out.fr⟩⟩
  case rest =>
    obtain ⟨s, HU, hs, HM⟩ := hcut
    have hk : r0 = 0 ∨ r0 = 1 ∨ r0 = 2 := by omega
    obtain ⟨c0, c1, c2, c3, c4⟩ := HM.out.fr.cell
    clear HM7
    rcases hk with rfl | rfl | rfl
    · rw [show (1 : Int) + (((0 : Nat)) : Int) = 1 from rfl] at HM c0
      go_wp2_with fail
      refine (next_c B gt _ 2 wc HM.out.tape (by omega) (by omega) (by omega)).mono ?_
      rintro e w9 ⟨r6, hr6, rfl, ht9, hg9⟩
      have HM9 := Lib.hid (HM.out.next ht9 hg9 (by omega) (by omega))
      obtain ⟨_, _, _, k3, k4⟩ := HM9.out.fr.cell
      obtain ⟨_, _, _, f3, f4⟩ := HM9.out.fr.frozen
      have HP := Lib.hid (HM9.out.put (i := 4) (v := .int .i64 ((r6 : Int))) (f' := ⟨1, r1, s, r3, (r6 : Int)⟩) (by omega) (by omega) (by omega) (by omega) rfl)
      have HE : Hid (errF ⟨1, r1, s, (r3 : Int), (r6 : Int)⟩ = 0) := Lib.hid (by
        have ho : okF ⟨1, r1, s, (r3 : Int), (r6 : Int)⟩ = true := by
          unfold okF
          simp [fromB, lastCell, firstFlag, lastFlag]
          omega
        unfold errF
        rw [ho]; rfl)
      have HD := Lib.hid (HP.out.done (by omega) (by omega) (by omega))
      obtain ⟨d0, d1, d2, d3, d4⟩ := HP.out.fr.cell
      obtain ⟨z0, z1, z2, z3, z4⟩ := HP.out.zero.cell
      obtain ⟨g0, g1, g2, g3, g4⟩ := HP.out.zero.frozen
      clear HM HM9 ht9 hg9 HP
      go_wp2
      obtain ⟨t0, t1, t2, t3, t4⟩ := HD.out.1.cell
      unfold put5W at t0 t1 t2 t3 t4
      refine bodyPost_ret (v := FV ⟨1, r1, s, (r3 : Int), (r6 : Int)⟩) (by simp [results, Try.results9, go_sem, t0, t1, t2, t3, t4]) rfl ⟨_, rfl, HE.out, HU.out, HD.out.2.1.more (by omega), HD.out.2.2⟩
    · rw [show (1 : Int) + (((1 : Nat)) : Int) = 2 from rfl] at HM c0
      go_wp2_with fail
      refine (next_c B gt _ 2 wc HM.out.tape (by omega) (by omega) (by omega)).mono ?_
      rintro e w9 ⟨r6, hr6, rfl, ht9, hg9⟩
      have HM9 := Lib.hid (HM.out.next ht9 hg9 (by omega) (by omega))
      obtain ⟨_, _, _, k3, k4⟩ := HM9.out.fr.cell
      obtain ⟨_, _, _, f3, f4⟩ := HM9.out.fr.frozen
      have HP := Lib.hid (HM9.out.put (i := 4) (v := .int .i64 (1 + (r6 : Int))) (f' := ⟨2, r1, s, r3, 1 + (r6 : Int)⟩) (by omega) (by omega) (by omega) (by omega) rfl)
      have HE : Hid (errF ⟨2, r1, s, (r3 : Int), 1 + (r6 : Int)⟩ = 0) := Lib.hid (by
        have ho : okF ⟨2, r1, s, (r3 : Int), 1 + (r6 : Int)⟩ = true := by
          unfold okF
          simp [fromB, lastCell, firstFlag, lastFlag]
          omega
        unfold errF
        rw [ho]; rfl)
      have HD := Lib.hid (HP.out.done (by omega) (by omega) (by omega))
      obtain ⟨d0, d1, d2, d3, d4⟩ := HP.out.fr.cell
      obtain ⟨z0, z1, z2, z3, z4⟩ := HP.out.zero.cell
      obtain ⟨g0, g1, g2, g3, g4⟩ := HP.out.zero.frozen
      clear HM HM9 ht9 hg9 HP
      go_wp2
      obtain ⟨t0, t1, t2, t3, t4⟩ := HD.out.1.cell
      unfold put5W at t0 t1 t2 t3 t4
      refine bodyPost_ret (v := FV ⟨2, r1, s, (r3 : Int), 1 + (r6 : Int)⟩) (by simp [results, Try.results9, go_sem, t0, t1, t2, t3, t4]) rfl ⟨_, rfl, HE.out, HU.out, HD.out.2.1.more (by omega), HD.out.2.2⟩
    · rw [show (1 : Int) + (((2 : Nat)) : Int) = 3 from rfl] at HM c0
      go_wp2_with fail
      refine (next_c B gt _ 3 wc HM.out.tape (by omega) (by omega) (by omega)).mono ?_
      rintro e w9 ⟨r6, hr6, rfl, ht9, hg9⟩
      have HM9 := Lib.hid (HM.out.next ht9 hg9 (by omega) (by omega))
      obtain ⟨_, _, _, k3, k4⟩ := HM9.out.fr.cell
      obtain ⟨_, _, _, f3, f4⟩ := HM9.out.fr.frozen
      have HP0 := Lib.hid (HM9.out.put (i := 3) (v := .int .i64 0) (f' := ⟨3, r1, s, 0, 0⟩) (by omega) (by omega) (by omega) (by omega) rfl)
      have HP := Lib.hid (HP0.out.put (i := 4) (v := .int .i64 ((r6 : Int))) (f' := ⟨3, r1, s, 0, (r6 : Int)⟩) (by omega) (by omega) (by omega) (by omega) rfl)
      have HE : Hid (errF ⟨3, r1, s, 0, (r6 : Int)⟩ = 0) := Lib.hid (by
        have ho : okF ⟨3, r1, s, 0, (r6 : Int)⟩ = true := by
          unfold okF
          simp [fromB, lastCell, firstFlag, lastFlag]
          omega
        unfold errF
        rw [ho]; rfl)
      have HD := Lib.hid (HP.out.done (by omega) (by omega) (by omega))
      obtain ⟨d0, d1, d2, d3, d4⟩ := HP.out.fr.cell
      obtain ⟨z0, z1, z2, z3, z4⟩ := HP.out.zero.cell
      obtain ⟨g0, g1, g2, g3, g4⟩ := HP.out.zero.frozen
      clear HM HM9 ht9 hg9 HP0 HP
      go_wp2
      obtain ⟨t0, t1, t2, t3, t4⟩ := HD.out.1.cell
      unfold put5W at t0 t1 t2 t3 t4
      refine bodyPost_ret (v := FV ⟨3, r1, s, 0, (r6 : Int)⟩) (by simp [results, Try.results9, go_sem, t0, t1, t2, t3, t4]) rfl ⟨_, rfl, HE.out, HU.out, HD.out.2.1.more (by omega), HD.out.2.2⟩
end Go.Proofs.Ytckknakpmaagnaa
