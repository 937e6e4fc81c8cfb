/- FrameCodes returns true: the functions return what the reference returns, for all frames and bytes. -/
import Derived.Test.YtehahlnpgkhamaaFrCmp
import Derived.Test.YtehahlnpgkhamaaFrRefD
import Derived.Test.YtehahlnpgkhamaaTapeC
import Derived.StillTailTactics
namespace Go.Proofs.Ytehahlnpgkhamaa
open Go Go.RowKit Fl

/-- What Encode returns: bytes, or none. -/
def encR (f : FrD) : List Int := if errF f = 0 then encF f else []
theorem encR_bytes (f : FrD) : BytesL (encR f) := by
  unfold encR
  split
  · exact encF_bytes (by assumption)
  · intro x hx; cases hx
def EncPost (b : List Int) (er : Int) (w : World) (e : Ending) (w' : World) : Prop := ∃ A c, e = .returned (.tuple #[.slice A b.length c, .int .i64 er]) ∧ Holds w' A (b.map Bv8) ∧ Below w.heap.size w w'
theorem encode_any (f : FrD) (hu : U64 f.seq) (w : World) : Calls Try.prog 11 #[FV f] w (EncPost (encR f) (errF f) w) := by
  by_cases h : errF f = 0
  · refine (encode_ok f h hu w).mono ?_
    rintro e w' ⟨g, c, rfl, hown, hb⟩
    refine ⟨some ⟨g, 0, none⟩, c, ?_, ?_, hb⟩
    · rw [h]; unfold encR; rw [if_pos h]; rfl
    · unfold encR; rw [if_pos h]; exact ownsRow_holds hown
  · refine (encode_bad f _ rfl (by rcases errF_cases f with h1 | h1 | h1; exact absurd h1 h; exact .inl h1; exact .inr h1) w).mono ?_
    rintro e w' ⟨rfl, hb⟩
    refine ⟨none, 0, ?_, ?_, hb⟩
    · unfold encR; rw [if_neg h]; rfl
    · unfold encR; rw [if_neg h]; exact .inl rfl
theorem refEncode_any (f : FrD) (hu : U64 f.seq) (w : World) : Calls Try.prog 9 #[FV f] w (EncPost (encR f) (errF f) w) := by
  by_cases h : errF f = 0
  · refine (refEncode_ok f h hu w).mono ?_
    rintro e w' ⟨v, rfl, hown, hb⟩
    obtain ⟨A, c, rfl, hh⟩ := own_is hown
    refine ⟨A, c, ?_, ?_, hb⟩
    · rw [h]; unfold encR; rw [if_pos h]
    · unfold encR; rw [if_pos h]; exact hh
  · refine (refEncode_bad f _ rfl (by rcases errF_cases f with h1 | h1 | h1; exact absurd h1 h; exact .inl h1; exact .inr h1) w).mono ?_
    rintro e w' ⟨rfl, hb⟩
    refine ⟨none, 0, ?_, ?_, hb⟩
    · unfold encR; rw [if_neg h]; rfl
    · unfold encR; rw [if_neg h]; exact .inl rfl
theorem refDecode_any (A : Option Addr) (c : Nat) (l : List Int) (w : World) (hh : Holds w A (l.map Bv8)) (hb : BytesL l) :
    Calls Try.prog 13 #[.slice A l.length c] w (DecPost l w) := by
  by_cases hl : l.length = 12
  · rw [hl]; exact refDecode_c A c l w hh hl hb
  · exact refDecode_short A c l w hl
def DecP (f : FrD) (d : Int) (w : World) (e : Ending) (w' : World) : Prop := e = .returned (.tuple #[FV f, .int .i64 d]) ∧ Below w.heap.size w w'
theorem bytes_set {l : List Int} (h : BytesL l) {x : Int} (hx : 0 ≤ x ∧ x < 256) (i : Nat) : BytesL (l.set i x) := fun y hy => by
  rcases List.mem_or_eq_of_mem_set hy with hy | rfl
  · exact h y hy
  · exact hx
/-- The arguments of one round. -/
def ArgAt (W : World) (P k : Nat) (F : FrD) (A : Option Addr) (c : Nat) (l : List Int) : Prop :=
  (W.cell? ⟨P, k * 5, none⟩ = some (.int .i64 F.kind) ∧ W.cell? ⟨P, k * 5 + 1, none⟩ = some (.int .i64 F.robot) ∧ W.cell? ⟨P, k * 5 + 2, none⟩ = some (.int .u64 F.seq) ∧ W.cell? ⟨P, k * 5 + 3, none⟩ = some (.int .i64 F.cell) ∧ W.cell? ⟨P, k * 5 + 4, none⟩ = some (.int .i64 F.flag)) ∧
  W.cell? ⟨P + 1, k, none⟩ = some (.slice A l.length c) ∧ Holds W A (l.map Bv8)
theorem two_args (w : World) (f g : FrD) (A B : Option Addr) (c d : Nat) (l m : List Int) (hf : U64 f.seq) (hg : U64 g.seq) (hl : BytesL l) (hm : BytesL m) (hA : Holds w A (l.map Bv8)) (hB : Holds w B (m.map Bv8)) :
    ∀ k, k < 2 → ∃ (F : FrD) (A' : Option Addr) (c' : Nat) (l' : List Int), U64 F.seq ∧ BytesL l' ∧ ∀ W, Below ((w.alloc (.cells #[.int .i64 f.kind, .int .i64 f.robot, .int .u64 f.seq, .int .i64 f.cell, .int .i64 f.flag, .int .i64 g.kind, .int .i64 g.robot, .int .u64 g.seq, .int .i64 g.cell, .int .i64 g.flag] 24)).alloc (.cells #[.slice A l.length c, .slice B m.length d] 25)).heap.size
      ((w.alloc (.cells #[.int .i64 f.kind, .int .i64 f.robot, .int .u64 f.seq, .int .i64 f.cell, .int .i64 f.flag, .int .i64 g.kind, .int .i64 g.robot, .int .u64 g.seq, .int .i64 g.cell, .int .i64 g.flag] 24)).alloc (.cells #[.slice A l.length c, .slice B m.length d] 25)) W → ArgAt W w.heap.size k F A' c' l' := by
  intro k hk
  generalize hw1 : w.alloc (.cells #[.int .i64 f.kind, .int .i64 f.robot, .int .u64 f.seq, .int .i64 f.cell, .int .i64 f.flag, .int .i64 g.kind, .int .i64 g.robot, .int .u64 g.seq, .int .i64 g.cell, .int .i64 g.flag] 24) = w1
  have hb1 : Below w.heap.size w w1 := by rw [← hw1]; exact below_newF w _
  have hs1 : w1.heap.size = w.heap.size + 1 := by rw [← hw1]; simp
  have h1 : w1.heap[w.heap.size]? = some (.cells #[.int .i64 f.kind, .int .i64 f.robot, .int .u64 f.seq, .int .i64 f.cell, .int .i64 f.flag, .int .i64 g.kind, .int .i64 g.robot, .int .u64 g.seq, .int .i64 g.cell, .int .i64 g.flag] 24 (0, 0)) := by rw [← hw1]; exact heap_alloc_new w _
  clear hw1
  have hb2 := below_newF w1 (.cells #[.slice A l.length c, .slice B m.length d] 25)
  have h2 := heap_alloc_new w1 (.cells #[.slice A l.length c, .slice B m.length d] 25)
  rw [hs1] at h2
  have h12 := (hb2.block _ (by omega)).trans h1
  generalize w1.alloc (.cells #[.slice A l.length c, .slice B m.length d] 25) = w2 at *
  have hbb := hb1.trans (hb2.mono hb1.size)
  have key : ∀ W, Below w2.heap.size w2 W → W.heap[w.heap.size]? = some (.cells #[.int .i64 f.kind, .int .i64 f.robot, .int .u64 f.seq, .int .i64 f.cell, .int .i64 f.flag, .int .i64 g.kind, .int .i64 g.robot, .int .u64 g.seq, .int .i64 g.cell, .int .i64 g.flag] 24 (0, 0)) ∧ W.heap[w.heap.size + 1]? = some (.cells #[.slice A l.length c, .slice B m.length d] 25 (0, 0)) ∧ Below w.heap.size w W := fun W hW =>
    ⟨(hW.block _ (block_lt h12)).trans h12, (hW.block _ (block_lt h2)).trans h2, hbb.trans (hW.mono hbb.size)⟩
  rcases (show k = 0 ∨ k = 1 by omega) with rfl | rfl
  · refine ⟨f, A, c, l, hf, hl, fun W hW => ?_⟩
    obtain ⟨p, q, r⟩ := key W hW
    refine ⟨⟨?_, ?_, ?_, ?_, ?_⟩, ?_, hA.keep r⟩ <;> first | (rw [cell_of_row W _ _ _ _ (0, 0) p]; rfl) | (rw [cell_of_row W _ _ _ _ (0, 0) q]; rfl)
  · refine ⟨g, B, d, m, hg, hm, fun W hW => ?_⟩
    obtain ⟨p, q, r⟩ := key W hW
    refine ⟨⟨?_, ?_, ?_, ?_, ?_⟩, ?_, hB.keep r⟩ <;> first | (rw [cell_of_row W _ _ _ _ (0, 0) p]; rfl) | (rw [cell_of_row W _ _ _ _ (0, 0) q]; rfl)
set_option maxRecDepth 100000 in
set_option maxHeartbeats 4000000 in
theorem frameCodes_c (f : FrD) (A1 A2 : Option Addr) (c1 c2 : Nat) (zs raw : List Int) (n0 n1 : Int) (w : World) (hu : U64 f.seq) (hz : IntsAt w w.heap.size A1 zs) (hzl : zs.length ≤ maxLen) (hr : Holds w A2 (raw.map Bv8)) (hrb : BytesL raw)
    (hn0 : -9223372036854775808 ≤ n0 ∧ n0 ≤ 9223372036854775807) (hn1 : -9223372036854775808 ≤ n1 ∧ n1 ≤ 9223372036854775807) :
    Calls Try.prog 3 #[FV f, .slice A2 raw.length c2, .slice A1 zs.length c1, .agg #[.int .i64 n0, .int .i64 n1]] w fun e w' => e = .returned (.bool true) ∧ Below w.heap.size w w' := by
  have HU0 := Lib.hid hu
  have HZ := Lib.hid hz
  have HL := Lib.hid hzl
  have HR := Lib.hid hr
  have HRb := Lib.hid hrb
  have HC3 : Hid (∀ W, Calls Try.prog 10 #[.int .i64 n0, .int .i64 3] W fun e w' => e = .returned (.int .i64 (cutN n0 3)) ∧ W = w') := Lib.hid (fun W => cutN_c n0 3 W (by omega) (by omega) hn0.1 hn0.2)
  have HC12 : Hid (∀ W, Calls Try.prog 10 #[.int .i64 n0, .int .i64 12] W fun e w' => e = .returned (.int .i64 (cutN n0 12)) ∧ W = w') := Lib.hid (fun W => cutN_c n0 12 W (by omega) (by omega) hn0.1 hn0.2)
  have HC256 : Hid (∀ W, Calls Try.prog 10 #[.int .i64 n1, .int .i64 256] W fun e w' => e = .returned (.int .i64 (cutN n1 256)) ∧ W = w') := Lib.hid (fun W => cutN_c n1 256 W (by omega) (by omega) hn1.1 hn1.2)
  have hl12 : cutN n0 12 < 12 := cutN_lt (by omega)
  have hl256 : cutN n1 256 < 256 := cutN_lt (by omega)
  generalize cutN n0 3 = k3 at *
  generalize cutN n0 12 = k12 at *
  generalize cutN n1 256 = k256 at *
  clear hu hz hzl hr hrb hn0 hn1
  have HX0 : Hid (FrAt ((w.alloc (.cells (FC f) 24)).alloc (.cells #[.int .i64 n0, .int .i64 n1] 27)) w.heap.size f) := Lib.hid ((FrAt.new w f).keep (below_newF _ _))
  have HB0 := Lib.hid ((below_newF w (.cells (FC f) 24)).trans ((below_newF _ (.cells #[.int .i64 n0, .int .i64 n1] 27)).mono (by simp)))
  have HN0 : Hid (((w.alloc (.cells (FC f) 24)).alloc (.cells #[.int .i64 n0, .int .i64 n1] 27)).heap[w.heap.size + 1]? = some (.cells #[.int .i64 n0, .int .i64 n1] 27 (0, 0))) := Lib.hid (by
    have := heap_alloc_new (w.alloc (.cells (FC f) 24)) (.cells #[.int .i64 n0, .int .i64 n1] 27)
    rwa [show (w.alloc (.cells (FC f) 24)).heap.size = w.heap.size + 1 by simp] at this)
  have hs0 : w.heap.size + 1 < ((w.alloc (.cells (FC f) 24)).alloc (.cells #[.int .i64 n0, .int .i64 n1] 27)).heap.size := by simp
  go_enter Try.func3, Try.ntmps3
  go_wp2_with fail
  generalize (w.alloc (.cells (FC f) 24)).alloc (.cells #[.int .i64 n0, .int .i64 n1] 27) = w0 at *
  refine (known13_c w0).mono ?_
  rintro e w1 ⟨rfl, hb1⟩
  have HX1 := Lib.hid (HX0.out.keep hb1)
  have HN1 := Lib.hid ((hb1.block _ (block_lt HN0.out)).trans HN0.out)
  have HB1 := Lib.hid (HB0.out.trans (hb1.mono HB0.out.size))
  have hs1 := Nat.lt_of_lt_of_le hs0 hb1.size
  have HT := Lib.hid (tape_new (c := c1) HZ.out (Nat.le_refl _) HB1.out HL.out)
  have HXT := Lib.hid (HX1.out.keep (below_newF w1 (.cells #[.slice A1 zs.length c1, .int .i64 0] 32)))
  have HNT := Lib.hid (((below_newF w1 (.cells #[.slice A1 zs.length c1, .int .i64 0] 32)).block _ (block_lt HN1.out)).trans HN1.out)
  have HBT := Lib.hid (HB1.out.alloc HB1.out.size (.cells #[.slice A1 zs.length c1, .int .i64 0] 32))
  have hsz : w1.heap.size < (w1.alloc (.cells #[.slice A1 zs.length c1, .int .i64 0] 32)).heap.size := by simp
  clear hb1 HZ HL HX0 HN0 HB0 HX1 HN1 HB1 hs0
  go_wp2_with fail
  generalize w1.alloc (.cells #[.slice A1 zs.length c1, .int .i64 0] 32) = w2 at *
  generalize w1.heap.size = g at *
  refine (frame_c w.heap.size g 0 w2 HT.out (by omega) hsz).mono ?_
  rintro e w3 ⟨f2, rfl, hf, hu, ht3, hg3⟩
  have HB3 : Hid (Below w.heap.size w w3) := Lib.hid (HBT.out.grown hg3 (by omega) (fun k hk => by injection hk with hk; omega))
  have HX3 := Lib.hid (HXT.out.grown hg3 (fun e => by injection e with e; omega))
  have HN3 := Lib.hid ((hg3.block _ (block_lt HNT.out) (fun e => by injection e with e; omega)).trans HNT.out)
  have HF := Lib.hid hf
  have HU := Lib.hid hu
  have HY4 : Hid (FrAt (w3.alloc (.cells (FC f2) 24)) w3.heap.size f2) := Lib.hid (FrAt.new w3 f2)
  have HX4 := Lib.hid (HX3.out.keep (below_newF w3 (.cells (FC f2) 24)))
  have HN4 := Lib.hid (((below_newF w3 (.cells (FC f2) 24)).block _ (block_lt HN3.out)).trans HN3.out)
  have HB4 := Lib.hid (HB3.out.alloc HB3.out.size (.cells (FC f2) 24))
  have hwY : w.heap.size + 1 < w3.heap.size := by have := hg3.size; omega
  clear ht3 hg3 HT hf hu HB3 HX3 HN3 HXT HNT HBT
  go_wp2_with fail
  generalize w3.alloc (.cells (FC f2) 24) = w4 at *
  generalize w3.heap.size = Y at *
  refine (refEncode_ok f2 HF.out HU.out _).mono ?_
  rintro e w5 ⟨vb, rfl, hown, hb5⟩
  obtain ⟨q, cq, rfl, hq, hcq⟩ := own_at hown (by rw [encF_len]; omega)
  have HO5 := Lib.hid hown
  have HY5 := Lib.hid (HY4.out.keep hb5)
  have HX5 := Lib.hid (HX4.out.keep hb5)
  have HN5 := Lib.hid ((hb5.block _ (block_lt HN4.out)).trans HN4.out)
  have HB5 := Lib.hid (HB4.out.trans (hb5.mono HB4.out.size))
  have hqY : Y < q := by have := block_lt HY4.out; omega
  obtain ⟨m0, m1⟩ : w5.cell? ⟨w.heap.size + 1, 0, none⟩ = some (.int .i64 n0) ∧ w5.cell? ⟨w.heap.size + 1, 1, none⟩ = some (.int .i64 n1) := by
    constructor <;> rw [cell_of_row w5 _ _ _ _ (0, 0) HN5.out] <;> rfl
  rw [encF_len] at hcq ⊢
  clear hb5 hown HY4 HX4 HN4 HB4 hq
  go_upto_if 42 with (first | (go_at_call 10; refine (HC3.out _).mono ?_; rintro e w' ⟨rfl, rfl⟩))
  go_cut [] (fun wx => Hid (∃ bl : List Int, Holds wx (some ⟨q, 0, none⟩) (bl.map Bv8) ∧ bl.length = 12 ∧ BytesL bl) ∧ Hid (FrAt wx w.heap.size f) ∧ Hid (FrAt wx Y f2) ∧ Hid (Below w.heap.size w wx))
  case first =>
    have HBL : Hid (BytesL (encF f2)) := Lib.hid (encF_bytes HF.out)
    by_cases h3 : 0 < k3
    · obtain ⟨u0, d0, z0⟩ : ∃ u, w5.cell? ⟨q, k12, none⟩ = some u ∧ w5.frozen? ⟨q, k12, none⟩ = false := ⟨_, own_get HO5.out (i := k12) (u := Bv8 ((encF f2)[k12]'(by rw [encF_len]; omega))) (by simp [encF_len, hl12])⟩
      have hw : IntKind.u8.wrap (k256 : Int) = (k256 : Int) := by rw [IntKind.wrap_u8]; omega
      have HE : Hid (∀ W, W = (w5.setCell ⟨q, k12, none⟩ (.int .u8 (k256 : Int))).drew → (∃ bl : List Int, Holds W (some ⟨q, 0, none⟩) (bl.map Bv8) ∧ bl.length = 12 ∧ BytesL bl) ∧ FrAt W w.heap.size f ∧ FrAt W Y f2 ∧ Below w.heap.size w W) := Lib.hid (fun W hW => by
        subst hW
        refine ⟨⟨(encF f2).set k12 (k256 : Int), ?_, by simp [encF_len], bytes_set HBL.out (by omega) _⟩, (HX5.out.set (by omega)).keep (Below.refl _ _).drew, (HY5.out.set (by omega)).keep (Below.refl _ _).drew, (below_put HB5.out (by omega)).drew⟩
        have h1 := own_put (i := k12) (v := Bv8 (k256 : Int)) HO5.out
        rw [← List.map_set] at h1
        exact (ownsRow_holds h1).keep (Below.refl _ _).drew)
      clear HX5 HY5 HB5 HO5
      go_wp2_with (go_at_call 10; with_reducible refine (HC3.out _).mono ?_; rintro e w' ⟨rfl, rfl⟩)
      go_region_with (first
        | (go_at_call 10; ((with_reducible refine (HC12.out _).mono ?_); rintro e w' ⟨rfl, rfl⟩))
        | (go_at_call 10; ((with_reducible refine (HC256.out _).mono ?_); rintro e w' ⟨rfl, rfl⟩)))
      all_goals
        go_wp2_with fail
        go_meet
        case rel =>
          obtain ⟨e1, e2, e3, e4⟩ := HE.out _ rfl
          exact ⟨Lib.hid e1, Lib.hid e2, Lib.hid e3, Lib.hid e4⟩
    · obtain rfl : k3 = 0 := by omega
      clear h3
      go_wp2_with (go_at_call 10; with_reducible refine (HC3.out _).mono ?_; rintro e w' ⟨rfl, rfl⟩)
      go_meet
      case rel => exact ⟨Lib.hid ⟨encF f2, ownsRow_holds HO5.out, encF_len f2, HBL.out⟩, HX5, HY5, HB5⟩
  case rest =>
    obtain ⟨HBl, HX, HY, HB⟩ := hcut
    obtain ⟨bl, hbl, hlen, hbb⟩ := HBl.out
    have HBL := Lib.hid hbl
    have HBB := Lib.hid hbb
    have HLN := Lib.hid hlen
    obtain ⟨x0, x1, x2, x3, x4⟩ := HX.out.cell
    obtain ⟨y0, y1, y2, y3, y4⟩ := HY.out.cell
    clear HX5 HY5 HB5 HO5 hbl hbb hlen HBl m0 m1 HC3 HC12 HC256
    go_wp2
    have hY2 : Y < wc.heap.size := block_lt HY.out
    have hBw := HB.out.size
    have HK := Lib.hid (two_args wc f f2 A2 (some ⟨q, 0, none⟩) c2 cq raw bl HU0.out HU.out HRb.out HBB.out (HR.out.keep HB.out) HBL.out)
    rw [HLN.out] at HK
    have HB7 : Hid (Below w.heap.size w ((wc.alloc (.cells #[.int .i64 f.kind, .int .i64 f.robot, .int .u64 f.seq, .int .i64 f.cell, .int .i64 f.flag, .int .i64 f2.kind, .int .i64 f2.robot, .int .u64 f2.seq, .int .i64 f2.cell, .int .i64 f2.flag] 24)).alloc (.cells #[.slice A2 raw.length c2, .slice (some ⟨q, 0, none⟩) 12 cq] 25))) := Lib.hid ((HB.out.alloc hBw _).alloc (by simp; omega) _)
    generalize (wc.alloc (.cells #[.int .i64 f.kind, .int .i64 f.robot, .int .u64 f.seq, .int .i64 f.cell, .int .i64 f.flag, .int .i64 f2.kind, .int .i64 f2.robot, .int .u64 f2.seq, .int .i64 f2.cell, .int .i64 f2.flag] 24)).alloc (.cells #[.slice A2 raw.length c2, .slice (some ⟨q, 0, none⟩) 12 cq] 25) = w7 at *
    generalize wc.heap.size = P at *
    clear HX HY HB HBL HBB HLN x0 x1 x2 x3 x4 y0 y1 y2 y3 y4 hY2 hBw HR HRb HU0 HU HF HN5
    go_loopw [14] (fun iv wr => ∃ k : Nat, k ≤ 2 ∧ iv = .int .i64 k ∧ Hid (Below w7.heap.size w7 wr)) (fun iv _ => 2 - (intOf iv).toNat)
    case atStart => exact ⟨0, by omega, rfl, Lib.hid (Below.refl _ _)⟩
    case round =>
      obtain ⟨k, hk, rfl, HB⟩ := hrel
      by_cases hk2 : k < 2
      · obtain ⟨F, A, c, l, hFu, hlb, hat⟩ := HK.out k hk2
        have HAT := Lib.hid hat
        have HLB := Lib.hid hlb
        have CE := Lib.hid (encode_any F hFu)
        have CR := Lib.hid (refEncode_any F hFu)
        have CD : Hid (∀ W, Below w7.heap.size w7 W → Calls Try.prog 12 #[.slice A l.length c] W (DecP (decF l) (errD l) W)) := Lib.hid (fun W hW => decode_any A c l W (hat W hW).2.2 hlb)
        have CQ : Hid (∀ W, Below w7.heap.size w7 W → Calls Try.prog 13 #[.slice A l.length c] W (DecP (decF l) (errD l) W)) := Lib.hid (fun W hW => refDecode_any A c l W (hat W hW).2.2 hlb)
        have CV := Lib.hid (devValid_f F)
        have CW := Lib.hid (refValid_c F)
        have HXB := Lib.hid (encR_bytes F)
        clear hat hFu hlb HLB HK
        generalize encR F = xb at *
        generalize errF F = er at *
        generalize decF l = fd at *
        generalize errD l = ed at *
        generalize validF F = vf at *
        obtain ⟨⟨x0, x1, x2, x3, x4⟩, xs, _⟩ := HAT.out wr HB.out
        go_wp2_with fail
        refine (CE.out _).mono ?_
        rintro e w8 ⟨E1, k1, rfl, hh1, hb8⟩
        have HH8 := Lib.hid hh1
        have HB8 := Lib.hid (HB.out.trans (hb8.mono HB.out.size))
        clear hh1 hb8 x0 x1 x2 x3 x4 xs CE
        obtain ⟨⟨x0, x1, x2, x3, x4⟩, xs, _⟩ := HAT.out w8 HB8.out
        go_wp2_with fail
        refine (CR.out _).mono ?_
        rintro e w9 ⟨E2, k2, rfl, hh2, hb9⟩
        have HH9 := Lib.hid (HH8.out.keep hb9)
        have HG9 := Lib.hid hh2
        have HB9 := Lib.hid (HB8.out.trans (hb9.mono HB8.out.size))
        clear hh2 hb9 x0 x1 x2 x3 x4 xs HH8 HB8 CR
        obtain ⟨_, xs, _⟩ := HAT.out w9 HB9.out
        go_wp2_with fail
        refine (CD.out _ HB9.out).mono ?_
        rintro e w10 ⟨rfl, hb10⟩
        have hbA := hb10.trans ((below_newF w10 (.cells (FC fd) 24)).mono hb10.size)
        have HH10 := Lib.hid (HH9.out.keep hbA)
        have HG10 := Lib.hid (HG9.out.keep hbA)
        have HB10 := Lib.hid (HB9.out.trans (hbA.mono HB9.out.size))
        have HP10 : Hid (FrAt (w10.alloc (.cells (FC fd) 24)) w10.heap.size fd) := Lib.hid (FrAt.new w10 fd)
        clear hb10 hbA xs HH9 HG9 HB9 CD
        obtain ⟨_, xs, _⟩ := HAT.out _ HB10.out
        go_wp2_with fail
        generalize w10.alloc (.cells (FC fd) 24) = w11 at *
        generalize w10.heap.size = P1 at *
        refine (CQ.out _ HB10.out).mono ?_
        rintro e w12 ⟨rfl, hb12⟩
        have hbA := hb12.trans ((below_newF w12 (.cells (FC fd) 24)).mono hb12.size)
        have HH12 := Lib.hid (HH10.out.keep hbA)
        have HG12 := Lib.hid (HG10.out.keep hbA)
        have HB12 := Lib.hid (HB10.out.trans (hbA.mono HB10.out.size))
        have HP12 := Lib.hid (HP10.out.keep hbA)
        have HQ12 : Hid (FrAt (w12.alloc (.cells (FC fd) 24)) w12.heap.size fd) := Lib.hid (FrAt.new w12 fd)
        clear hb12 hbA xs HH10 HG10 HB10 HP10 CQ
        have HXX := Lib.hid (str_beq HXB.out HXB.out)
        rw [decide_eq_true rfl] at HXX
        go_wp2_with fail
        generalize w12.alloc (.cells (FC fd) 24) = w13 at *
        generalize w12.heap.size = P2 at *
        obtain ⟨st, hst⟩ : ∃ st, strOfNums xb = st := ⟨_, rfl⟩
        have HS : Hid (∀ W, Below w13.heap.size w13 W → (convert 25 9 (.slice E1 xb.length k1)).run Try.prog W = .ok (.string st) W ∧ (convert 25 9 (.slice E2 xb.length k2)).run Try.prog W = .ok (.string st) W ∧ W.cell? ⟨P1, 0, none⟩ = some (.int .i64 fd.kind) ∧ W.cell? ⟨P1, 1, none⟩ = some (.int .i64 fd.robot) ∧ W.cell? ⟨P1, 2, none⟩ = some (.int .u64 fd.seq) ∧ W.cell? ⟨P1, 3, none⟩ = some (.int .i64 fd.cell) ∧ W.cell? ⟨P1, 4, none⟩ = some (.int .i64 fd.flag) ∧ W.cell? ⟨P2, 0, none⟩ = some (.int .i64 fd.kind) ∧ W.cell? ⟨P2, 1, none⟩ = some (.int .i64 fd.robot) ∧ W.cell? ⟨P2, 2, none⟩ = some (.int .u64 fd.seq) ∧ W.cell? ⟨P2, 3, none⟩ = some (.int .i64 fd.cell) ∧ W.cell? ⟨P2, 4, none⟩ = some (.int .i64 fd.flag) ∧ W.cell? ⟨P, k * 5, none⟩ = some (.int .i64 F.kind) ∧ W.cell? ⟨P, k * 5 + 1, none⟩ = some (.int .i64 F.robot) ∧ W.cell? ⟨P, k * 5 + 2, none⟩ = some (.int .u64 F.seq) ∧ W.cell? ⟨P, k * 5 + 3, none⟩ = some (.int .i64 F.cell) ∧ W.cell? ⟨P, k * 5 + 4, none⟩ = some (.int .i64 F.flag)) := Lib.hid (fun W hW => by
          obtain ⟨x0, x1, x2, x3, x4⟩ := (HP12.out.keep hW).cell
          obtain ⟨y0, y1, y2, y3, y4⟩ := (HQ12.out.keep hW).cell
          obtain ⟨⟨z0, z1, z2, z3, z4⟩, _, _⟩ := HAT.out W (HB12.out.trans (hW.mono HB12.out.size))
          have c1 := conv8 W E1 k1 xb (HH12.out.keep hW)
          have c2 := conv8 W E2 k2 xb (HG12.out.keep hW)
          rw [hst] at c1 c2
          exact ⟨c1, c2, x0, x1, x2, x3, x4, y0, y1, y2, y3, y4, z0, z1, z2, z3, z4⟩)
        have CVV : Hid (∀ W, Below w13.heap.size w13 W → Calls Try.prog 14 #[FV F] W fun e w' => e = .returned (.bool vf) ∧ Below w13.heap.size w13 w') := Lib.hid (fun W hW => (CV.out W).mono fun e w' ⟨h1, h2⟩ => ⟨h1, hW.trans (h2.mono hW.size)⟩)
        have CWW : Hid (∀ W, Below w13.heap.size w13 W → Calls Try.prog 15 #[FV F] W fun e w' => e = .returned (.bool vf) ∧ Below w13.heap.size w13 w') := Lib.hid (fun W hW => (CW.out W).mono fun e w' ⟨h1, h2⟩ => ⟨h1, hW.trans (h2.mono hW.size)⟩)
        have hef := fun W => eq_frame fd fd W
        simp only [decide_true] at hef
        have hgf := fun W op x y xs ys => guard_frame op x y xs ys W
        clear CV CW hst HXX HXB
        go_region_held3 (fun W => (convert 25 9 (.slice E1 xb.length k1)).run Try.prog W = .ok (.string st) W ∧ (convert 25 9 (.slice E2 xb.length k2)).run Try.prog W = .ok (.string st) W ∧ W.cell? ⟨P1, 0, none⟩ = some (.int .i64 fd.kind) ∧ W.cell? ⟨P1, 1, none⟩ = some (.int .i64 fd.robot) ∧ W.cell? ⟨P1, 2, none⟩ = some (.int .u64 fd.seq) ∧ W.cell? ⟨P1, 3, none⟩ = some (.int .i64 fd.cell) ∧ W.cell? ⟨P1, 4, none⟩ = some (.int .i64 fd.flag) ∧ W.cell? ⟨P2, 0, none⟩ = some (.int .i64 fd.kind) ∧ W.cell? ⟨P2, 1, none⟩ = some (.int .i64 fd.robot) ∧ W.cell? ⟨P2, 2, none⟩ = some (.int .u64 fd.seq) ∧ W.cell? ⟨P2, 3, none⟩ = some (.int .i64 fd.cell) ∧ W.cell? ⟨P2, 4, none⟩ = some (.int .i64 fd.flag) ∧ W.cell? ⟨P, k * 5, none⟩ = some (.int .i64 F.kind) ∧ W.cell? ⟨P, k * 5 + 1, none⟩ = some (.int .i64 F.robot) ∧ W.cell? ⟨P, k * 5 + 2, none⟩ = some (.int .u64 F.seq) ∧ W.cell? ⟨P, k * 5 + 3, none⟩ = some (.int .i64 F.cell) ∧ W.cell? ⟨P, k * 5 + 4, none⟩ = some (.int .i64 F.flag)) (first | exact HS.out _ (by repeat (first | assumption | (with_reducible exact Below.refl _ _) | (with_reducible refine Below.drew ?_)))) (first
          | (go_at_call 14; ((with_reducible refine (CVV.out _ (by repeat (first | assumption | (with_reducible exact Below.refl _ _) | (with_reducible refine Below.drew ?_)))).mono ?_); rintro e w14 ⟨rfl, hb14⟩))
          | (go_at_call 15; ((with_reducible refine (CWW.out _ (by repeat (first | assumption | (with_reducible exact Below.refl _ _) | (with_reducible refine Below.drew ?_)))).mono ?_); rintro e w15 ⟨rfl, hb15⟩)))
        have HBE := Lib.hid (HB12.out.trans (hb15.mono HB12.out.size))
        clear hb14 hb15 HS CVV CWW HB12
        go_wp2
        go_roundw
        case rel => exact ⟨k + 1, by omega, by go_num, HBE⟩
        case measure => simp [intOf]; omega
      · obtain rfl : k = 2 := by omega
        have HBf := Lib.hid (HB7.out.trans (HB.out.mono HB7.out.size))
        go_wp2
        go_ret
        exact ⟨rfl, HBf.out⟩
end Go.Proofs.Ytehahlnpgkhamaa
