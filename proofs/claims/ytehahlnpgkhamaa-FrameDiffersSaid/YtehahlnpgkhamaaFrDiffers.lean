/- FrameDiffers returns true: different frames have different bytes. -/
import Derived.Test.YtehahlnpgkhamaaFrCmp
namespace Go.Proofs.Ytehahlnpgkhamaa
open Go Go.RowKit Fl

set_option maxRecDepth 100000 in
set_option maxHeartbeats 4000000 in
theorem frameDiffers_c (A1 A2 : Option Addr) (c1 c2 : Nat) (zs1 zs2 : List Int) (w : World) (hz1 : IntsAt w w.heap.size A1 zs1) (hzl1 : zs1.length ≤ maxLen) (hz2 : IntsAt w w.heap.size A2 zs2) (hzl2 : zs2.length ≤ maxLen) :
    Calls Try.prog 5 #[.slice A1 zs1.length c1, .slice A2 zs2.length c2] w fun e w' => e = .returned (.bool true) ∧ Below w.heap.size w w' := by
  have CK := Lib.hid (known13_c w)
  have HZ := Lib.hid hz1
  have HL := Lib.hid hzl1
  have HZ2 := Lib.hid hz2
  have HL2 := Lib.hid hzl2
  clear hz1 hzl1 hz2 hzl2
  go_enter Try.func5, Try.ntmps5
  go_wp2_with fail
  refine CK.out.mono ?_
  rintro e w1 ⟨rfl, hb1⟩
  have HT := Lib.hid (tape_new (c := c1) HZ.out (Nat.le_refl _) hb1 HL.out)
  have HB1 : Hid (Below w.heap.size w (w1.alloc (.cells #[.slice A1 zs1.length c1, .int .i64 0] 32))) := Lib.hid (hb1.alloc hb1.size _)
  have hgB : w.heap.size ≤ w1.heap.size := hb1.size
  have hsz : w1.heap.size < (w1.alloc (.cells #[.slice A1 zs1.length c1, .int .i64 0] 32)).heap.size := by simp
  clear hb1 CK HZ HL
  go_wp2_with fail
  generalize w1.alloc (.cells #[.slice A1 zs1.length c1, .int .i64 0] 32) = w2 at *
  generalize w1.heap.size = g at *
  refine (frame_c w.heap.size g 0 w2 HT.out (by omega) hsz).mono ?_
  rintro e w3 ⟨f1, rfl, hf1, hu1, ht3, hg3⟩
  have HB3 : Hid (Below w.heap.size w w3) := Lib.hid (HB1.out.grown hg3 (by omega) (fun k hk => by injection hk with hk; omega))
  clear ht3 hg3 HT HB1
  have HT3 := Lib.hid (tape_new (c := c2) HZ2.out (Nat.le_refl _) HB3.out HL2.out)
  have HB4 : Hid (Below w.heap.size w (w3.alloc (.cells #[.slice A2 zs2.length c2, .int .i64 0] 32))) := Lib.hid (HB3.out.alloc HB3.out.size _)
  have hgB3 : w.heap.size ≤ w3.heap.size := HB3.out.size
  have hsz3 : w3.heap.size < (w3.alloc (.cells #[.slice A2 zs2.length c2, .int .i64 0] 32)).heap.size := by simp
  have HF1 := Lib.hid hf1
  have HU1 := Lib.hid hu1
  clear HZ2 HL2 HB3 hf1 hu1
  go_wp2_with fail
  generalize w3.alloc (.cells #[.slice A2 zs2.length c2, .int .i64 0] 32) = w4 at *
  generalize w3.heap.size = g3 at *
  refine (frame_c w.heap.size g3 0 w4 HT3.out (by omega) hsz3).mono ?_
  rintro e w5 ⟨f2, rfl, hf2, hu2, ht5, hg5⟩
  have HB5 : Hid (Below w.heap.size w w5) := Lib.hid (HB4.out.grown hg5 (by omega) (fun k hk => by injection hk with hk; omega))
  have HF2 := Lib.hid hf2
  have HU2 := Lib.hid hu2
  clear ht5 hg5 HT3 HB4 hf2 hu2
  have HX1 : Hid (FrAt ((w5.alloc (.cells (FC f1) 24)).alloc (.cells (FC f2) 24)) w5.heap.size f1) := Lib.hid ((FrAt.new w5 f1).keep (below_newF _ _))
  have HX2 : Hid (FrAt ((w5.alloc (.cells (FC f1) 24)).alloc (.cells (FC f2) 24)) (w5.heap.size + 1) f2) := Lib.hid (by
    have := FrAt.new (w5.alloc (.cells (FC f1) 24)) f2
    rwa [show (w5.alloc (.cells (FC f1) 24)).heap.size = w5.heap.size + 1 by simp] at this)
  have HB7 := Lib.hid ((HB5.out.alloc HB5.out.size (.cells (FC f1) 24)).alloc (by have := HB5.out.size; simp; omega) (.cells (FC f2) 24))
  clear HB5
  go_wp2_with fail
  generalize (w5.alloc (.cells (FC f1) 24)).alloc (.cells (FC f2) 24) = w7 at *
  generalize w5.heap.size = X at *
  refine (encode_ok f1 HF1.out HU1.out _).mono ?_
  rintro e w8 ⟨q1, k1, rfl, hown1, hb8⟩
  have HX18 := Lib.hid (HX1.out.keep hb8)
  have HX28 := Lib.hid (HX2.out.keep hb8)
  have HB8 := Lib.hid (HB7.out.trans (hb8.mono HB7.out.size))
  have HO8 := Lib.hid hown1
  obtain ⟨t0, t1, t2, t3, t4⟩ := HX28.out.cell
  clear hb8 hown1 HX1 HX2 HB7
  go_wp2_with fail
  refine (encode_ok f2 HF2.out HU2.out _).mono ?_
  rintro e w9 ⟨q2, k2, rfl, hown2, hb9⟩
  obtain ⟨s0, s1, s2, s3, s4⟩ := (HX18.out.keep hb9).cell
  obtain ⟨t0, t1, t2, t3, t4⟩ := (HX28.out.keep hb9).cell
  have HB9 := Lib.hid (HB8.out.trans (hb9.mono HB8.out.size))
  have dv1 := fun n => conv8 (w9.drewN n) (some ⟨q1, 0, none⟩) k1 (encF f1) (ownsRow_holds (ownsRow_below (ownsRow_below HO8.out hb9) (below_drewN (Below.refl _ _) n)))
  have dv2 := fun n => conv8 (w9.drewN n) (some ⟨q2, 0, none⟩) k2 (encF f2) (ownsRow_holds (ownsRow_below hown2 (below_drewN (Below.refl _ _) n)))
  simp only [encF_len] at dv1 dv2
  have hsb := str_beq (encF_bytes HF1.out) (encF_bytes HF2.out)
  have heq : decide (encF f1 = encF f2) = decide (f1 = f2) := by
    rw [Bool.eq_iff_iff, decide_eq_true_eq, decide_eq_true_eq]
    exact ⟨enc_inj HU1.out HU2.out, fun h => by rw [h]⟩
  rw [heq] at hsb
  have hef := fun W => eq_frame f1 f2 W
  clear hb9 hown2 HX18 HX28 HB8 HO8 heq
  go_wp2_with fail
  go_quiet (fail)
  go_wp2
  go_ret
  exact ⟨rfl, below_drewN HB9.out _⟩
end Go.Proofs.Ytehahlnpgkhamaa
