/- Contract of the sanity check of layer 6's laws, if girth's functions keep what CgBase asks. -/
import Derived.Test.YtkgnblnhfjjjmaaCgBase
namespace Go.Proofs.Ytkgnblnhfjjjmaa
open Go Go.RowKit Fl

set_option maxRecDepth 100000 in
set_option maxHeartbeats 4000000 in
theorem known6_c (hG : DevGirth) (hT : DevThrough) (hC : DevClosed) (w : World) : Calls Try.prog 8 #[] w fun e w' => e = .returned (.bool true) ∧ Below w.heap.size w w' := by
  have CG := Lib.hid (fun (A B : Option Addr) (c d : Nat) (W : World) hr hs => girth_ok hG (A := A) (B := B) (c := c) (d := d) (n := 3) (g := tG) (s := eS) (W := W) hr hs tG_valid rfl rfl)
  have CT := Lib.hid (fun (A B : Option Addr) (c d : Nat) (W : World) hr hs => through_ok hT (A := A) (B := B) (c := c) (d := d) (n := 3) (v := 2) (g := tG) (s := eS) (W := W) hr hs tG_valid rfl rfl (by decide))
  have CC := Lib.hid (fun (A B C : Option Addr) (c d k : Nat) (W : World) hr hs hc => closed_ok hC (A := A) (B := B) (C := C) (c := c) (d := d) (k := k) (n := 3) (g := tG) (s := eS) (l := [0, 1]) (W := W) hr hs hc tG_valid rfl rfl (by decide))
  rw [t_gir, show ([0, 1] : List Int).length = 2 from rfl] at CG
  rw [t_thr, show ([2, 0, 1] : List Int).length = 3 from rfl, show (((2 : Nat) : Int)) = 2 from rfl, show (((3 : Nat) : Int)) = 3 from rfl] at CT
  rw [t_cls, show ([0, 1] : List Int).length = 2 from rfl] at CC
  have CG2 := CG
  rw [show (((2 : Nat) : Int)) = 2 from rfl] at CG2
  clear CG hG hT hC
  go_enter Try.func8, Try.ntmps8
  go_wp2_with fail
  have HR1 := Lib.hid (rows3 w w.heap.size #[.int .i64 1] #[.int .i64 0, .int .i64 2] #[.int .i64 0] [1] [0, 2] [0] 1 2 1 3 3 3 24 rfl rfl rfl rfl rfl rfl rfl)
  have HW1 := Lib.hid (below_alloc4 w (.cells #[.int .i64 1] 3) (.cells #[.int .i64 0, .int .i64 2] 3) (.cells #[.int .i64 0] 3) (.cells #[.slice (some ⟨w.heap.size, 0, none⟩) 1 1, .slice (some ⟨w.heap.size + 1, 0, none⟩) 2 2, .slice (some ⟨w.heap.size + 1 + 1, 0, none⟩) 1 1] 24))
  have HK1 := Lib.hid (fun (ob : Obj) => HR1.out.keep (below_alloc _ ob))
  have HW2 := Lib.hid (fun (ob : Obj) => HW1.out.trans ((below_alloc _ ob).mono HW1.out.size))
  refine (CG2.out (some ⟨w.heap.size + 1 + 1 + 1, 0, none⟩) (some ⟨w.heap.size + 1 + 1 + 1 + 1, 0, none⟩) 3 3 _ (HK1.out _) (lit_holds _ _ #[.bool false, .bool false, .bool false] _ _ (by simp) rfl)).mono ?_
  rintro e w2 ⟨X1, c1, _, rfl, h1, hb1⟩
  have HM2 := Lib.hid ((lit_holds ((((w.alloc (.cells #[.int .i64 1] 3)).alloc (.cells #[.int .i64 0, .int .i64 2] 3)).alloc (.cells #[.int .i64 0] 3)).alloc (.cells #[.slice (some ⟨w.heap.size, 0, none⟩) 1 1, .slice (some ⟨w.heap.size + 1, 0, none⟩) 2 2, .slice (some ⟨w.heap.size + 1 + 1, 0, none⟩) 1 1] 24)) (w.heap.size + 1 + 1 + 1 + 1) #[.bool false, .bool false, .bool false] 4 (eS.map Bo) (by simp) rfl).keep hb1)
  have HR2 := Lib.hid ((HK1.out _).keep hb1)
  have HB2 := Lib.hid ((HW2.out _).trans (hb1.mono (HW2.out _).size))
  have HX2 := Lib.hid h1
  clear h1 hb1 HR1 HW1 HK1 HW2 CG2
  go_wp2_with fail
  refine (CT.out _ _ 3 3 _ HR2.out HM2.out).mono ?_
  rintro e w3 ⟨X2, c2, _, rfl, h2, hb2⟩
  have HM3 := Lib.hid (HM2.out.keep hb2)
  have HR3 := Lib.hid (HR2.out.keep hb2)
  have HB3 := Lib.hid (HB2.out.trans (hb2.mono HB2.out.size))
  have HX3 := Lib.hid (HX2.out.keep hb2)
  have HY3 := Lib.hid h2
  clear h2 hb2 HM2 HR2 HB2 HX2 CT
  go_wp2_with fail
  refine (sameIntsE_c X1 (some ⟨w3.heap.size, 0, none⟩) c1 2 [0, 1] _ (HX3.out.keep (below_alloc _ _)) (lit_holds _ _ #[.int .i64 0, .int .i64 1] _ _ rfl rfl) (by decide)).mono ?_
  rintro e w5 ⟨rfl, n5, rfl⟩
  have hb5 := below_drewN (below_alloc w3 (.cells #[.int .i64 0, .int .i64 1] 3)) n5
  have HB5 := Lib.hid (HB3.out.trans (hb5.mono HB3.out.size))
  have HM5 := Lib.hid (HM3.out.keep hb5)
  have HR5 := Lib.hid (HR3.out.keep hb5)
  have HY5 := Lib.hid (HY3.out.keep hb5)
  clear hb5 HB3 HM3 HR3 HX3 HY3
  generalize (w3.alloc (.cells #[.int .i64 0, .int .i64 1] 3)).drewN n5 = w5 at *
  go_wp2_with fail
  refine (sameIntsE_c X2 (some ⟨w5.heap.size, 0, none⟩) c2 3 [2, 0, 1] _ (HY5.out.keep (below_alloc _ _)) (lit_holds _ _ #[.int .i64 2, .int .i64 0, .int .i64 1] _ _ rfl rfl) (by decide)).mono ?_
  rintro e w6 ⟨rfl, n6, rfl⟩
  have hb6 := below_drewN (below_alloc w5 (.cells #[.int .i64 2, .int .i64 0, .int .i64 1] 3)) n6
  have HB6 := Lib.hid (HB5.out.trans (hb6.mono HB5.out.size))
  have HM6 := Lib.hid (HM5.out.keep hb6)
  have HR6 := Lib.hid (HR5.out.keep hb6)
  clear hb6 HB5 HM5 HR5 HY5
  generalize (w5.alloc (.cells #[.int .i64 2, .int .i64 0, .int .i64 1] 3)).drewN n6 = w6 at *
  go_wp2_with fail
  refine (CC.out _ _ (some ⟨w6.heap.size, 0, none⟩) 3 3 2 _ (HR6.out.keep (below_alloc _ _)) (HM6.out.keep (below_alloc _ _)) (lit_holds _ _ #[.int .i64 0, .int .i64 1] _ _ rfl rfl)).mono ?_
  rintro e w7 ⟨rfl, hb7⟩
  have hb8 := (below_alloc w6 (.cells #[.int .i64 0, .int .i64 1] 3)).trans (hb7.mono (below_alloc w6 (.cells #[.int .i64 0, .int .i64 1] 3)).size)
  have HB7 := Lib.hid (HB6.out.trans (hb8.mono HB6.out.size))
  clear hb7 hb8 HB6 HM6 HR6
  go_wp2
  go_ret
  exact ⟨rfl, HB7.out⟩
end Go.Proofs.Ytkgnblnhfjjjmaa
