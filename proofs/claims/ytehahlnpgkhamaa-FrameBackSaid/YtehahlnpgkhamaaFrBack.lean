/- FrameBack returns true: a valid frame is read back from its bytes, and what is read has these bytes. -/
import Derived.Test.YtehahlnpgkhamaaFrCmp
import Derived.Test.YtehahlnpgkhamaaFrRef
namespace Go.Proofs.Ytehahlnpgkhamaa
open Go Go.RowKit Fl

theorem devValid_z (f : FrD) (h : errF f = 0) (w : World) : Calls Try.prog 14 #[FV f] w fun e w' => e = .returned (.bool true) ∧ Below w.heap.size w w' := by
  have := devValid_f f w
  unfold validF at this
  rwa [h] at this
set_option maxRecDepth 100000 in
set_option maxHeartbeats 4000000 in
theorem frameBack_c (A1 A2 : Option Addr) (c1 c2 : Nat) (zs : List Int) (raw : List Int) (w : World) (hz : IntsAt w w.heap.size A1 zs) (hzl : zs.length ≤ maxLen) (hr : Holds w A2 (raw.map Bv8)) (hrb : BytesL raw) :
    Calls Try.prog 4 #[.slice A1 zs.length c1, .slice A2 raw.length c2] w fun e w' => e = .returned (.bool true) ∧ Below w.heap.size w w' := by
  have CK := Lib.hid (known13_c w)
  have HZ := Lib.hid hz
  have HL := Lib.hid hzl
  have HR := Lib.hid hr
  have HRb := Lib.hid hrb
  clear hz hzl hr hrb
  go_enter Try.func4, Try.ntmps4
  go_wp2_with fail
  refine CK.out.mono ?_
  rintro e w1 ⟨rfl, hb1⟩
  have HT := Lib.hid (tape_new (c := c1) HZ.out (Nat.le_refl _) hb1 HL.out)
  have HB1 : Hid (Below w.heap.size w (w1.alloc (.cells #[.slice A1 zs.length c1, .int .i64 0] 32))) := Lib.hid (hb1.alloc hb1.size _)
  have hgB : w.heap.size ≤ w1.heap.size := hb1.size
  have hsz : w1.heap.size < (w1.alloc (.cells #[.slice A1 zs.length c1, .int .i64 0] 32)).heap.size := by simp
  clear hb1 CK HZ HL
  go_wp2_with fail
  generalize w1.alloc (.cells #[.slice A1 zs.length c1, .int .i64 0] 32) = w2 at *
  generalize w1.heap.size = g at *
  refine (frame_c w.heap.size g 0 w2 HT.out (by omega) hsz).mono ?_
  rintro e w3 ⟨f, rfl, hf, hu, ht3, hg3⟩
  have HB3 : Hid (Below w.heap.size w w3) := Lib.hid (HB1.out.grown hg3 (by omega) (fun k hk => by injection hk with hk; omega))
  have HF := Lib.hid hf
  have HU := Lib.hid hu
  have HX3 : Hid (FrAt (w3.alloc (.cells (FC f) 24)) w3.heap.size f) := Lib.hid (FrAt.new w3 f)
  have HB4 := Lib.hid (HB3.out.alloc HB3.out.size (.cells (FC f) 24))
  clear ht3 hg3 HT HB1 hf hu HB3
  go_wp2_with fail
  generalize w3.alloc (.cells (FC f) 24) = w4 at *
  generalize w3.heap.size = X at *
  refine (encode_ok f HF.out HU.out _).mono ?_
  rintro e w5 ⟨q, k, rfl, hown, hb5⟩
  have HX5 := Lib.hid (HX3.out.keep hb5)
  have HO5 := Lib.hid (ownsRow_holds hown)
  have HB5 := Lib.hid (HB4.out.trans (hb5.mono HB4.out.size))
  clear hb5 hown HX3 HB4
  go_wp2_with fail
  refine (decode_c _ _ (encF f) _ HO5.out (encF_len f) (encF_bytes HF.out)).mono ?_
  rintro e w6 ⟨rfl, hb6⟩
  rw [dec_enc HU.out HF.out, errD_enc HU.out, HF.out]
  have HX6 := Lib.hid ((HX5.out.keep hb6).keep (below_newF w6 (.cells (FC f) 24)))
  have HB6 := Lib.hid (HB5.out.trans (hb6.mono HB5.out.size))
  have HY6 : Hid (FrAt (w6.alloc (.cells (FC f) 24)) w6.heap.size f) := Lib.hid (FrAt.new w6 f)
  have HB7 := Lib.hid (HB6.out.alloc HB6.out.size (.cells (FC f) 24))
  obtain ⟨x0, x1, x2, x3, x4⟩ := HX6.out.cell
  obtain ⟨y0, y1, y2, y3, y4⟩ := HY6.out.cell
  have hef := fun W => eq_frame f f W
  simp only [decide_true] at hef
  clear hb6 HX5 HB5 HO5 HB6 HX6 HY6
  go_wp2_with fail
  refine (devValid_z f HF.out _).mono ?_
  rintro e w8 ⟨rfl, hb8⟩
  have HB8 := Lib.hid (HB7.out.trans (hb8.mono HB7.out.size))
  have HR8 := Lib.hid (HR.out.keep HB8.out)
  clear hb8 HB7 x0 x1 x2 x3 x4 y0 y1 y2 y3 y4 hef
  go_wp2_with fail
  refine (decode_any _ _ raw _ HR8.out HRb.out).mono ?_
  rintro e w9 ⟨rfl, hb9⟩
  have HB9 := Lib.hid (HB8.out.trans (hb9.mono HB8.out.size))
  have HY9 : Hid (FrAt (w9.alloc (.cells (FC (decF raw)) 24)) w9.heap.size (decF raw)) := Lib.hid (FrAt.new w9 (decF raw))
  have HB10 := Lib.hid (HB9.out.alloc HB9.out.size (.cells (FC (decF raw)) 24))
  obtain ⟨y0, y1, y2, y3, y4⟩ := HY9.out.cell
  clear hb9 HB8 HB9 HR8
  by_cases he : errD raw = 0
  · obtain ⟨he1, he2, he3⟩ := enc_dec HRb.out he
    have CE := Lib.hid (encode_ok (decF raw) he3 he2)
    have hlen : Hid (raw.length = 12) := Lib.hid (by rw [← he1]; exact encF_len _)
    rw [he1] at CE
    rw [he]
    clear he he1 he2 he3
    go_wp2_with fail
    refine (CE.out _).mono ?_
    rintro e w11 ⟨q2, k2, rfl, hown2, hb11⟩
    have HB11 := Lib.hid (HB10.out.trans (hb11.mono HB10.out.size))
    have cv1 := conv8 w11 (some ⟨q2, 0, none⟩) k2 raw (by have := ownsRow_holds hown2; exact this)
    have cv2 := conv8 w11 A2 c2 raw (HR.out.keep HB11.out)
    rw [hlen.out] at cv1
    clear hb11 HB10 hown2 hlen y0 y1 y2 y3 y4 HY9
    generalize strOfNums raw = st at *
    go_wp2
    go_ret
    exact ⟨by first | rfl | simp, HB11.out⟩
  · have hd : decF raw = zeroF := by unfold decF; rw [if_neg he]
    have hne : (errD raw == 0) = false := by rw [beq_eq_false_iff_ne]; exact he
    have hef := fun W => eq_frame zeroF zeroF W
    simp only [decide_true, zeroF] at hef
    rw [hd] at y0 y1 y2 y3 y4 HB10 ⊢
    clear hd he HY9
    simp only [zeroF] at *
    generalize errD raw = er at *
    go_wp2
    go_ret
    exact ⟨by first | rfl | simp, HB10.out⟩
end Go.Proofs.Ytehahlnpgkhamaa
